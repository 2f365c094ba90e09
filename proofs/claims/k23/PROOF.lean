import PyProof.Rows.All
import Wide.All
import OpenK.AllK
import Wide.FinOn
import Lean
import PyProof.EqAt
import PyProof.EqKinds
import PyProof.TupleCall
import PyProof.P3Eq
import PyProof.P3In
import PyProof.ReprRoads
import PyProof.StrWalks
import PyProof.ListRange
import PyProof.ListStr
import PyProof.ConsumeWalk
import PyProof.MinMaxWalk
import PyProof.NeData
import PyProof.SliceStr2
import PyProof.Rows.SortStr
import PyProof.Rows.StrJoin2
import PyProof.Rows.SeqMore
import PyProof.SeqI3
import PyProof.StrLawsIn
import PyProof.ReprBulk
import PyProof.ListMulRoad
import PyProof.StrOps2
import PyProof.Rows.SortShellK
import KE.KSortTup
import PyProof.Rows.SetFrom
import PyProof.CollectIter
import PyProof.CollectStr
import PyProof.FactsAll.set
import PySem.SetTable
import PyProof.SetScanFacts
import PyProof.TupleKey
import PyProof.IsRules
import PySem.Challenge.RW_lostpost_k23_words_that_part
import PyProof.DictRoadsH
import PyProof.ZipIter
import PyProof.Rows.TupDisplay
import KE.KDictOf
import PyProof.AttrMissHeap
import PyProof.DictWalks
import KE.KDictLaws
import PyProof.Draws
import KE.KRevIter
import PyProof.EnumStmt
import PyProof.JoinWalk
import KE.BitLaws
import PyProof.TupleOfSeq
set_option Elab.async false
set_option linter.all false
set_option maxRecDepth 100000
namespace L2
open PySem PySem.Spec PyProof.Rows
noncomputable abbrev Key:=Sum Int Str
noncomputable def zxc:Key->Value->Bool
 | .inl k,v=>Value.isInt k v
 | .inr x,v=>Value.isStrOf x v
noncomputable def keyH (w:World):Key->Int
 | .inl k=>hashInt k
 | .inr x=>hashStr w x
theorem zbc:∀ {k:Key} {v:Value},zxc k v=true->(∃ i t,k=Sum.inl i/\v=Value.int i t)\/(∃ x t,k=Sum.inr x/\v=Value.str x t)
 | .inl i,v,h=>by
   obtain ⟨t,e⟩:=Value.isInt_shape (k:=i) (v:=v) h
   exact .inl ⟨i,t,rfl,e⟩
 | .inr x,v,h=>by
   obtain ⟨t,e⟩:=Value.isStrOf_shape (x:=x) (v:=v) h
   exact .inr ⟨x,t,rfl,e⟩
theorem z1k (a b:Int):decide ((Sum.inl a:Key)=Sum.inl b)=(a == b):=by
 by_cases e:a=b
 ·subst e;simp
 ·have h:¬ (Sum.inl a:Key)=Sum.inl b:=fun q=>e (Sum.inl.inj q)
  rw [decide_eq_false h]
  exact (beq_eq_false_iff_ne.mpr e).symm
theorem z2t (a b:Str):decide ((Sum.inr a:Key)=Sum.inr b)=decide (a=b):=by
 by_cases e:a=b
 ·subst e;simp
 ·have h:¬ (Sum.inr a:Key)=Sum.inr b:=fun q=>e (Sum.inr.inj q)
  rw [decide_eq_false h,decide_eq_false e]
theorem z2o (a:Int) (b:Str):decide ((Sum.inl a:Key)=Sum.inr b)=false:=decide_eq_false (fun q=>nomatch q)
theorem z3d (a:Str) (b:Int):decide ((Sum.inr a:Key)=Sum.inl b)=false:=decide_eq_false (fun q=>nomatch q)
noncomputable def zjv (prog:Program) (w:World):PySem.KeyKind prog w Key where
 is:=zxc
 hash:=keyH w
 inj:=fun v a b ha hb=>by
  rcases zbc ha with ⟨i,t,rfl,rfl⟩ | ⟨x,t,rfl,rfl⟩
  ·rcases zbc hb with ⟨j,u,rfl,e⟩ | ⟨y,u,rfl,e⟩
   ·injection e with e1 _;rw [e1]
   ·exact nomatch e
  ·rcases zbc hb with ⟨j,u,rfl,e⟩ | ⟨y,u,rfl,e⟩
   ·exact nomatch e
   ·injection e with e1 _;rw [e1]
 byValue:=fun k v h=>by
  rcases zbc h with ⟨i,t,rfl,rfl⟩ | ⟨x,t,rfl,rfl⟩ <;> rfl
 pyHash:=fun hv h=>by
  rcases zbc hv with ⟨i,t,rfl,rfl⟩ | ⟨x,t,rfl,rfl⟩
  ·exact wpAny_pyHash_int h
  ·exact wpAny_pyHash_str h
 eqBool:=fun hu hv h=>by
  rcases zbc hu with ⟨i,t,rfl,rfl⟩ | ⟨x,t,rfl,rfl⟩
  ·rcases zbc hv with ⟨j,u,rfl,rfl⟩ | ⟨y,u,rfl,rfl⟩
   ·rw [z1k] at h;exact wpAny_eqBool_int h
   ·rw [z2o] at h;exact SeqAt.EqAt.int_str i t y u _ _ _ _ h
  ·rcases zbc hv with ⟨j,u,rfl,rfl⟩ | ⟨y,u,rfl,rfl⟩
   ·rw [z3d] at h;exact SeqAt.EqAt.str_int x t j u _ _ _ _ h
   ·rw [z2t] at h;exact wpAny_eqBool_str h
 «strs»:=fun k x t v h=>by
  rcases zbc h with ⟨i,u,rfl,e⟩ | ⟨y,u,rfl,e⟩
  ·exact nomatch e
  ·injection e with e1 _
   subst e1
   cases v <;> rfl
end L2
namespace L2
open PySem PySem.Spec PyProof.Rows
inductive V where
 | non | bl (b:Bool) | int (i:Int) | str (x:Str) | byt (b:Array UInt8) | flt (b:UInt64) | ref (a:Addr) | ty (n:String)
 deriving DecidableEq
noncomputable def RelV:V->Value->Prop
 | .non,u=>u=Value.none
 | .bl b,u=>u=Value.bool b
 | .int i,u=>∃ t,u=Value.int i t
 | .str x,u=>∃ t,u=Value.str x t
 | .byt b,u=>∃ t,u=Value.bytes b t
 | .flt b,u=>∃ t,u=Value.float b t
 | .ref a,u=>u=Value.ref a
 | .ty n,u=>u=Value.type n
noncomputable abbrev Vals:List V->List Value->Prop:=Paired RelV
theorem Vals.length {xs:List V} {us:List Value} (r:Vals xs us):xs.length=us.length:=Paired.length r
theorem Vals.get:∀ {xs:List V} {us:List Value} {i:Nat} {x:V},Vals xs us->xs[i]? = some x->∃ u,us[i]? = some u/\RelV x u
 | _,_,_,_,.nil,e=>by simp at e
 | _,_,0,_,.cons r _,e=>by simp at e;subst e;exact ⟨_,rfl,r⟩
 | _,_,i+1,x,.cons _ t,e=>by
   obtain ⟨u,h1,h2⟩:=Vals.get (i:=i) (x:=x) t (by simpa using e)
   exact ⟨u,by simpa using h1,h2⟩
theorem Vals.set {x:V} {u:Value} (r:RelV x u):∀ {xs:List V} {us:List Value} (i:Nat),Vals xs us->Vals (xs.set i x) (us.set i u)
 | _,_,_,.nil => .nil
 | _,_,0,.cons _ t => .cons r t
 | _,_,i+1,.cons q t => .cons q (Vals.set r i t)
theorem Vals.append:∀ {xs ys:List V} {us ws:List Value},Vals xs us->Vals ys ws->Vals (xs++ys) (us++ws)
 | _,_,_,_,.nil,s=>s
 | _,_,_,_,.cons r t,s => .cons r (Vals.append t s)
theorem Vals.take:∀ {xs:List V} {us:List Value} (n:Nat),Vals xs us->Vals (xs.take n) (us.take n)
 | _,_,0,_ => .nil
 | _,_,_+1,.nil => .nil
 | _,_,n+1,.cons r t => .cons r (Vals.take n t)
theorem Vals.drop:∀ {xs:List V} {us:List Value} (n:Nat),Vals xs us->Vals (xs.drop n) (us.drop n)
 | _,_,0,r=>r
 | _,_,_+1,.nil => .nil
 | _,_,n+1,.cons _ t=>Vals.drop n t
noncomputable def RelO:Option V->Option Value->Prop
 | some v,some u=>RelV v u
 | none,none=>True
 | _,_=>False
noncomputable def KV {κ:Type}:List (κ × V)->List (κ × Value)->Prop:=Paired fun (p:κ × V) (q:κ × Value)=>p.1=q.1/\RelV p.2 q.2
noncomputable def kV:Key->V
 | .inl i => .int i
 | .inr x => .str x
inductive HO where
 | lst (xs:List V)
 | tup (xs:List V)
 | dK (kvs:List (Key × V)) | dT (kvs:List (List Key × V))
 | set (S:Int->Bool) (n:Nat)
 | ins (C dx:Addr) (fs:List (Str × V))
 | own (x:Addr)
 | xd (fs:List (Str × V))
 | met (f x:Addr)
 | rng (lo hi:Int)
 | frz (o:Obj) (u:HO)
 | tbl (ps:Array Value)
 | ext (φ:Heap->Prop)
noncomputable abbrev Hp:=Addr->Option HO
noncomputable def upd (H:Hp) (a:Addr) (o:HO):Hp:=fun b=>if b=a then some o else H b
theorem zai {H:Hp} {a:Addr} {o:HO}:upd H a o a=some o:=by unfold upd;rw [if_pos rfl]
theorem zad {H:Hp} {a b:Addr} {o:HO} (h:b ≠ a):upd H a o b=H b:=by unfold upd;rw [if_neg h]
theorem zb1 {H:Hp} {a b:Addr} {o:HO} (h:H a=some o) (h':H b=none):a ≠ b:=by
 intro e;subst e;rw [h] at h';cases h'
section
variable (P : Program) (w : World)
noncomputable def ObjOk (H:Hp) (h:Heap) (a:Addr):HO->Prop
 | .lst xs=>xs.length<=sizeLine/\∃ (its:List Value) (n:Nat),Vals xs its/\h.get? a=some { cls := .type "list", data := .seq its.toArray n }
 | .tup xs=>xs.length<=sizeLine/\∃ its:List Value,Vals xs its/\IsTup h a its.toArray
 | .dK kvs=>kvs.length<=sizeLine/\(a == sysModules)=false/\∃ vs,KV kvs vs/\h.DictOf (zjv P w) a vs
 | .dT kvs=>kvs.length<=sizeLine/\(a == sysModules)=false/\∃ xs:List (List Key × Addr × Value),
  Paired (fun (p:List Key × V) (q:List Key × Addr × Value)=>p.1=q.1/\H q.2.1=some (.tup (p.1.map kV))/\RelV p.2 q.2.2) kvs xs /\
  ∃ o es ep,h.get? a=some o/\o.ExactDict/\o.data = .dict es ep/\es.toList=xs.map (entryOfKey (tupleKind (zjv P w)))/\(xs.map (·.1)).Nodup
 | .set S n=>h.SetOf (intKind P w) a S n
 | .ins C dx fs=>H dx=some (.own a)/\fs.length<=1000/\dx ≠ a/\h.get? a=some (PySem.W.instObj C dx) /\
  ∃ mA,h.Ns1 dx mA/\(∀ f,RelO (fs.lookup f) (mA f))/\PySem.Within mA (fs.map (·.1))
 | .own _=>∃ o,h.get? a=some o
 | .xd fs=>∃ mA,h.Ns1 a mA/\∀ f,RelO (fs.lookup f) (mA f)
 | .rng lo hi=>∃ t u v,h.get? a=some { cls := .type "range", data := .fields #[.int lo t,.int hi u,.int 1 v] }
 | .frz o u=>h.get? a=some o/\ObjOk H h a u
 | .tbl ps=>h.get? a=some { cls := .none,data := .fields ps }
 | .met f x=>h.get? a=some (PySem.W.methodObj (.ref f) (.ref x))
 | .ext φ=>φ h/\(∃ o,h.get? a=some o)/\∀ h1 h2:Heap,φ h1->(∀ o,h1.get? a=some o->h2.get? a=some o)->φ h2
noncomputable def HOk (H:Hp) (h:Heap):Prop:=∀ a o,H a=some o->ObjOk P w H h a o
end
section
variable {P : Program} {w : World} {H H' : Hp} {h h' : Heap} {a : Addr} {o : HO}
theorem ObjOk.lt (x:ObjOk P w H h a o):a<h.objs.size:=by
 cases o with
 | lst xs=>obtain ⟨_,_,_,_,e⟩:=x;exact Heap.lt_size e
 | tup xs=>obtain ⟨_,_,_,p⟩:=x;exact p.lt
 | dK kvs=>obtain ⟨_,_,_,_,o,_,_,e,_⟩:=x;exact Heap.lt_size e
 | dT kvs=>obtain ⟨_,_,_,_,o,_,_,e,_⟩:=x;exact Heap.lt_size e
 | set S n=>obtain ⟨o,_,_,_,e,_⟩:=x;exact Heap.lt_size e
 | ins C dx fs=>obtain ⟨_,_,_,e,_⟩:=x;exact Heap.lt_size e
 | own y=>obtain ⟨_,e⟩:=x;exact Heap.lt_size e
 | xd fs=>obtain ⟨_,⟨_,_,_,e,_⟩,_⟩:=x;exact Heap.lt_size e
 | rng lo hi=>obtain ⟨_,_,_,e⟩:=x;exact Heap.lt_size e
 | frz ob u=>obtain ⟨e,_⟩:=x;exact Heap.lt_size e
 | tbl ps=>exact Heap.lt_size (show h.get? a=some _ from x)
 | met f y=>exact Heap.lt_size (show h.get? a=some _ from x)
 | ext φ=>obtain ⟨_,⟨_,e⟩,_⟩:=x;exact Heap.lt_size e
theorem Paired.mapP {α β:Type} {F G:α->β->Prop}:∀ {l₁:List α} {l₂:List β},Paired F l₁ l₂->(∀ a b,F a b->G a b)->Paired G l₁ l₂
 | _,_,.nil,_ => .nil
 | _,_,.cons r t,f => .cons (f _ _ r) (Paired.mapP t f)
theorem ObjOk.stay (x:ObjOk P w H h a o) (k:∀ b u,(b=a\/H b=some (.own a))->h.get? b=some u->h'.get? b=some u)
 (ho:∀ b,H b=some (.own a)->H' b=some (.own a)) (ht:∀ b xs,H b=some (.tup xs)->H' b=some (.tup xs)):ObjOk P w H' h' a o:=by
 induction o with
 | lst xs=>obtain ⟨z,its,n,r,e⟩:=x;exact ⟨z,its,n,r,k _ _ (.inl rfl) e⟩
 | tup xs=>obtain ⟨z,its,r,ob,e,c⟩:=x;exact ⟨z,its,r,ob,k _ _ (.inl rfl) e,c⟩
 | dK kvs=>obtain ⟨z,y,vs,r,ob,es,ep,e,c⟩:=x;exact ⟨z,y,vs,r,ob,es,ep,k _ _ (.inl rfl) e,c⟩
 | dT kvs =>
   obtain ⟨z,y,xs,r,ob,es,ep,e,c⟩:=x
   exact ⟨z,y,xs,Paired.mapP r fun p q z=>⟨z.1,ht _ _ z.2.1,z.2.2⟩,ob,es,ep,k _ _ (.inl rfl) e,c⟩
 | set S n=>obtain ⟨ob,es,ep,t,e,c⟩:=x;exact ⟨ob,es,ep,t,k _ _ (.inl rfl) e,c⟩
 | ins C dx fs =>
   obtain ⟨d,z,ne,e,mA,⟨od,es,ep,e2,c⟩,r⟩:=x
   exact ⟨ho _ d,z,ne,k _ _ (.inl rfl) e,mA,⟨od,es,ep,k _ _ (.inr d) e2,c⟩,r⟩
 | own y=>obtain ⟨ob,e⟩:=x;exact ⟨ob,k _ _ (.inl rfl) e⟩
 | xd fs=>obtain ⟨mA,⟨od,es,ep,e,c⟩,r⟩:=x;exact ⟨mA,⟨od,es,ep,k _ _ (.inl rfl) e,c⟩,r⟩
 | rng lo hi=>obtain ⟨t,u,v,e⟩:=x;exact ⟨t,u,v,k _ _ (.inl rfl) e⟩
 | frz ob u ih=>obtain ⟨e,q⟩:=x;exact ⟨k _ _ (.inl rfl) e,ih q⟩
 | tbl ps =>
   have e:h.get? a=some { cls := .none,data := .fields ps }:=x
   show h'.get? a=some { cls := .none,data := .fields ps }
   exact k a _ (.inl rfl) e
 | met f y =>
   have e:h.get? a=some (PySem.W.methodObj (.ref f) (.ref y)):=x
   show h'.get? a=some (PySem.W.methodObj (.ref f) (.ref y))
   exact k a _ (.inl rfl) e
 | ext φ=>obtain ⟨p,⟨o,e⟩,st⟩:=x;exact ⟨st _ _ p fun o q=>k _ _ (.inl rfl) q,⟨o,k _ _ (.inl rfl) e⟩,st⟩
theorem HOk.lt (x:HOk P w H h) (e:H a=some o):a<h.objs.size:=(x a o e).lt
theorem HOk.fresh (x:HOk P w H h) (e:h.objs.size<=a):H a=none:=by
 cases q:H a with
 | none=>rfl
 | some u=>exact absurd (Nat.lt_of_lt_of_le (x.lt q) e) (Nat.lt_irrefl _)
theorem HOk.kept (x:HOk P w H h) (k:∀ b u,h.get? b=some u->h'.get? b=some u):HOk P w H h':=fun a o e =>
 (x a o e).stay (fun b u _ q=>k b u q) (fun _ q=>q) fun _ _ q=>q
theorem HOk.laid (x:HOk P w H h) (k:∀ b u,h.get? b=some u->h'.get? b=some u) (hp:h.objs.size<=a) (new:ObjOk P w (upd H a o) h' a o):HOk P w (upd H a o) h':=fun b u e=>by
 have hn:=x.fresh hp
 by_cases hb:b=a
 ·subst hb;rw [zai] at e;cases e;exact new
 ·rw [zad hb] at e
  exact (x b u e).stay (fun c v _ q=>k c v q) (fun c q=>by rw [zad (zb1 q hn)];exact q) fun c xs q=>by rw [zad (zb1 q hn)];exact q
end
noncomputable def Rd (H:Hp) (a:Addr) (u:HO):Prop:=H a=some u\/∃ o,H a=some (.frz o u)
theorem Rd.ok {P:Program} {w:World} {H:Hp} {h:Heap} {a:Addr} {u:HO} (r:Rd H a u) (x:HOk P w H h):ObjOk P w H h a u:=by
 rcases r with r | ⟨o,r⟩
 ·exact x a u r
 ·obtain ⟨_,q⟩:=x a _ r
  exact q
noncomputable def Mut:Option HO->Prop
 | some (.lst _)=>True
 | some (.dK _)=>True
 | some (.dT _)=>True
 | some (.set _ _)=>True
 | some (.ins _ _ _)=>True
 | some (.ext _)=>True
 | _=>False
section
variable {P : Program} {w : World} {H : Hp} {h h' : Heap} {x e : Addr} {o' : HO}
theorem HOk.write (ok:HOk P w H h) (mu:Mut (H x)) (he:e=x\/H e=some (.own x)) (k:∀ b u,b ≠ e->h.get? b=some u->h'.get? b=some u) (heo:∃ u,h'.get? e=some u)
 (new:ObjOk P w (upd H x o') h' x o'):HOk P w (upd H x o') h':=fun b u q=>by
 have nown:∀ c y,H c=some (.own y)->c ≠ x:=fun c y r z=>by subst z;rw [r] at mu;exact mu
 have ntup:∀ c xs,H c=some (.tup xs)->c ≠ x:=fun c xs r z=>by subst z;rw [r] at mu;exact mu
 by_cases hb:b=x
 ·subst hb;rw [zai] at q;cases q;exact new
 ·rw [zad hb] at q
  by_cases hbe:b=e
  ·have q':H b=some (.own x):=by
    rcases he with z | z
    ·exact absurd (hbe.trans z) hb
    ·rw [hbe];exact z
   rw [q] at q';cases q'
   obtain ⟨v,hv⟩:=heo
   exact ⟨v,by rw [hbe];exact hv⟩
  ·refine (ok b u q).stay (fun c v hc r=>k c v ?_ r) (fun c r=>by rw [zad (nown c b r)];exact r) fun c xs r=>by rw [zad (ntup c xs r)];exact r
   rcases hc with rfl | hc
   ·exact hbe
   ·rintro rfl
    rcases he with z | z
    ·exact nown c b hc z
    ·rw [hc] at z;cases z;exact hb rfl
end
structure Un (fs ex:List Addr) (H H':Hp) (h h':Heap):Prop where
 keep:∀ b o,h.get? b=some o->H b=none->b ∉ fs->b ∉ ex->h'.get? b=some o
 slot:∀ b o,h.get? b=some o->H b=none->b ∈ fs->b ∉ ex->∃ sl,h'.get? b=some { o with slots:=sl }
 free:∀ b o,h.get? b=some o->H b=none->b ∉ ex->H' b=none
 there:∀ b o,h.get? b=some o->b ∉ ex->∃ o',h'.get? b=some o'
 tups:∀ b xs,H b=some (.tup xs)->H' b=some (.tup xs)
 frzs:∀ b o u,H b=some (.frz o u)->H' b=some (.frz o u)
 tbls:∀ b ps,H b=some (.tbl ps)->∃ more,H' b=some (.tbl (ps++more))
section
variable {fs fs' ex ex' : List Addr} {H H1 H2 : Hp} {h h1 h2 h' : Heap} {a x e : Addr} {o : HO}
theorem Un.any (u:Un fs ex H H1 h h1) {b:Addr} {ob:Obj} (q:h.get? b=some ob) (n:H b=none) (hx:b ∉ ex):∃ sl,h1.get? b=some { ob with slots:=sl }:=by
 by_cases hb:b ∈ fs
 ·exact u.slot b ob q n hb hx
 ·exact ⟨ob.slots,u.keep b ob q n hb hx⟩
theorem Un.kept (k:∀ b u,h.get? b=some u->h'.get? b=some u):Un fs ex H H h h' :=
 ⟨fun b ob q _ _ _=>k b ob q,fun b ob q _ _ _=>⟨ob.slots,k b ob q⟩,fun _ _ _ n _=>n,fun b ob q _=>⟨ob,k b ob q⟩,fun _ _ q=>q,fun _ _ _ q=>q,fun _ ps q=>⟨#[],by rw [q];simp⟩⟩
theorem Un.refl:Un fs ex H H h h:=Un.kept fun _ _ q=>q
theorem Un.laid (k:∀ b u,h.get? b=some u->h'.get? b=some u) (hp:h.objs.size<=a) (hn:H a=none):Un fs ex H (upd H a o) h h' where
 keep:=fun b u q _ _ _=>k b u q
 slot:=fun b u q _ _ _=>⟨u.slots,k b u q⟩
 free:=fun b u q n _=>by rw [zad (Nat.ne_of_lt (Nat.lt_of_lt_of_le (Heap.lt_size q) hp))];exact n
 there:=fun b u q _=>⟨u,k b u q⟩
 tups:=fun b xs q=>by rw [zad (zb1 q hn)];exact q
 frzs:=fun b u xs q=>by rw [zad (zb1 q hn)];exact q
 tbls:=fun b ps q=>⟨#[],by rw [zad (zb1 q hn),q];simp⟩
theorem Un.write (mu:Mut (H x)) (he:e=x\/H e=some (.own x)) (k:∀ b u,b ≠ e->h.get? b=some u->h'.get? b=some u) (heo:∃ u,h'.get? e=some u):Un fs ex H (upd H x o) h h':=by
 have hx:∀ b,H b=none->b ≠ x:=fun b n z=>by subst z;rw [n] at mu;exact mu
 have hb:∀ b,H b=none->b ≠ e:=fun b n z=>by
  subst z
  rcases he with r | r
  ·exact hx b n r
  ·rw [n] at r;cases r
 have hm:∀ b u,H b=some u->¬ Mut (some u)->b ≠ x:=fun b u q nm z=>by subst z;rw [q] at mu;exact nm mu
 refine ⟨fun b u q n _ _=>k b u (hb b n) q,fun b u q n _ _=>⟨u.slots,k b u (hb b n) q⟩,fun b u q n _=>by rw [zad (hx b n)];exact n,fun b u q _=>?_,
  fun b xs q=>by rw [zad (hm b _ q fun z=>z)];exact q,fun b u xs q=>by rw [zad (hm b _ q fun z=>z)];exact q,fun b ps q=>⟨#[],by rw [zad (hm b _ q fun z=>z),q];simp⟩⟩
 by_cases hbe:b=e
 ·subst hbe;exact heo
 ·exact ⟨u,k b u hbe q⟩
end
noncomputable def trk (h:Heap) (H:Hp):List Addr:=(List.range h.objs.size).filter fun a=>(H a).isSome
noncomputable def hidT (h:Heap) (H:Hp):Heap:=PySem.W.hideAll h (trk h H)
theorem ztw (h:Heap) (H:Hp):(hidT h H).objs.size=h.objs.size:=PySem.W.hideAll_size _ _
theorem zve {h:Heap} {H:Hp} {b:Addr} {o:Obj} (e:h.get? b=some o) (n:H b=none):(hidT h H).get? b=some o :=
 PySem.W.hideAll_get _ e fun hm=>by
  have q:(H b).isSome=true:=(List.mem_filter.mp hm).2
  rw [n] at q;simp at q
theorem zyl {h:Heap} {H:Hp} {b:Addr} {o:Obj} (e:(hidT h H).get? b=some o):h.get? b=some o/\H b=none:=by
 have e':h.get? b=some o:=PySem.W.of_hideAll (trk h H) e
 refine ⟨e',?_⟩
 cases q:H b with
 | none=>rfl
 | some x =>
   have hm:b ∈ trk h H:=List.mem_filter.mpr ⟨List.mem_range.mpr (Heap.lt_size e'),by simp [q]⟩
   have z:(hidT h H).get? b=none:=PySem.W.hideAll_none (trk h H) hm
   rw [z] at e;cases e
end L2
namespace L2
open PySem PySem.Spec PyProof.Rows
structure Mod (K:PySem.W.Frag) (mg:Str->Option Value) (base:Heap):Prop where
 kin:K.In base
 glob:base.Ns mainGlobals mg
 blt:∃ mb,base.Ns builtinsNs mb/\∀ x:Str,x ≠ "__name__" -> mb x=bootBuiltins x
 nolimit:base.NoLimit
structure Cx where
 prog:Program
 w:World
 K:PySem.W.Frag
 mg:Str->Option Value
 base:Heap
 A:Around
 N:List Str
 s₀:Shared
 H₀:Hp
 env:Env
 outer:List Env
 stack:List Env
 ex:List Addr
 fn:Str->Bool
 calm:Bool
 pn:List (Addr × Obj)
 xe:Value->Shared->Prop
noncomputable def frs (l:List Env):List Addr:=l.filterMap (·.frame)
noncomputable abbrev Cx.fs (X:Cx):List Addr:=frs X.outer
noncomputable def Vis (sc:Scope) (x:Str):Prop:=sc.names.lookup x=some .local\/sc.names.lookup x=some .cell\/sc.names.lookup x=some .free
noncomputable def Loc (sc:Scope) (x:Str):Prop:=sc.names.lookup x=some .local\/sc.names.lookup x=some .cell
noncomputable def Look (env:Env) (h:Heap) (m:Str->Option Value) (x:Str) (u:Value):Prop :=
 (env.kindOf x=some .local/\m x=some u)\/((env.kindOf x=some .cell\/env.kindOf x=some .free)/\∃ c,env.cells.lookup x=some c/\h.IsCell c (some u))
structure Cx.Ok (X:Cx):Prop where
 mod:Mod X.K X.mg X.base
 kind:X.env.scope.kind = .function
 glob:X.env.globals=mainGlobals
 blt:X.env.builtins=builtinsNs
 above:X.s₀.heap.objs.size<=X.env.locals
 inj:∀ x y c,X.env.cells.lookup x=some c->X.env.cells.lookup y=some c->x=y
 has:∀ x,(X.env.kindOf x=some .cell\/X.env.kindOf x=some .free)->∃ c,X.env.cells.lookup x=some c
 cab:∀ x c,X.fn x=true->X.env.cells.lookup x=some c->X.s₀.heap.objs.size<=c
 hd:X.calm=true->X.A.handled=none
 frames:X.A.frames=some X.stack
 stk:X.stack=X.outer\/(X.stack=X.env::X.outer/\X.env.frame=some X.env.locals)
 exf:∀ b ∈ X.ex,b ≠ X.env.locals/\∀ x c,X.env.cells.lookup x=some c->c ≠ b
 bs:∀ b o,X.base.get? b=some o->X.s₀.heap.get? b=some o/\X.H₀ b=none
 bsz:X.base.objs.size<=X.s₀.heap.objs.size
 noex:∀ b o,X.base.get? b=some o->b ∉ X.ex
 exfs:∀ b ∈ X.ex,b ∉ X.fs
 funs:X.s₀.heap.FunFrames X.base X.outer
 frf:∀ b ∈ X.fs,X.H₀ b=none
structure Inv (X:Cx) (pins:List (Addr × Obj)) (σ:List (Option V)) (H:Hp) (s:Shared):Prop where
 ok:X.Ok
 os:s.os=X.s₀.os
 bare:AllBare s.gens
 base:Un X.fs X.ex X.H₀ H X.s₀.heap s.heap
 loc:∃ m,s.heap.Ns X.env.locals m/\∀ (i:Nat) (x:Str) (v:V),X.N[i]? = some x->σ[i]? = some (some v)->Vis X.env.scope x->∃ u,RelV v u/\Look X.env s.heap m x u
 cell:∀ x c,X.env.cells.lookup x=some c->∃ v,s.heap.IsCell c v
 free:H X.env.locals=none
 freeC:∀ x c,X.env.cells.lookup x=some c->H c=none
 pin:∀ p ∈ X.pn++pins,s.heap.get? p.1=some p.2/\H p.1=none/\p.1 ≠ X.env.locals/\p.1 ∉ X.fs/\∀ v,p.2.data ≠ .cell v
 hok:HOk X.prog X.w H s.heap
 len:σ.length=X.N.length
section
variable {X : Cx} {pins : List (Addr × Obj)} {σ : List (Option V)} {H H' : Hp} {s : Shared} {h' : Heap}
theorem Cx.Ok.nofr (ok:X.Ok) {b:Addr} {o:Obj} (e:X.base.get? b=some o):b ∉ X.fs:=fun hb=>by
 have:=(ok.funs.mem hb).1
 rw [e] at this;cases this
theorem Inv.bs (I:Inv X pins σ H s):∀ b o,X.base.get? b=some o->s.heap.get? b=some o/\H b=none:=fun b o e =>
 ⟨I.base.keep b o (I.ok.bs b o e).1 (I.ok.bs b o e).2 (I.ok.nofr e) (I.ok.noex b o e),I.base.free b o (I.ok.bs b o e).1 (I.ok.bs b o e).2 (I.ok.noex b o e)⟩
theorem Inv.bk (I:Inv X pins σ H s):∀ b o,X.base.get? b=some o->s.heap.get? b=some o:=fun b o e=>(I.bs b o e).1
theorem Inv.mod (I:Inv X pins σ H s):Mod X.K X.mg X.base:=I.ok.mod
theorem Inv.kIn (I:Inv X pins σ H s):X.K.In s.heap:=I.ok.mod.kin.keeps I.bk
theorem Inv.lt (I:Inv X pins σ H s):X.env.locals<s.heap.objs.size:=let ⟨_,hn,_⟩:=I.loc;hn.lt
theorem Inv.sz (I:Inv X pins σ H s):X.s₀.heap.objs.size<=s.heap.objs.size:=Nat.le_trans I.ok.above (Nat.le_of_lt I.lt)
theorem Inv.nofs (I:Inv X pins σ H s) {a:Addr} (h:s.heap.objs.size<=a):a ∉ X.fs:=fun hb=>by
 obtain ⟨_,o,ho,_⟩:=I.ok.funs.mem hb
 exact absurd (Nat.lt_of_lt_of_le (Heap.lt_size ho) (Nat.le_trans I.sz h)) (Nat.lt_irrefl _)
theorem Inv.cne (I:Inv X pins σ H s):∀ x c,X.env.cells.lookup x=some c->c ≠ X.env.locals:=fun x c e z=>by
 obtain ⟨v,o,ho,hd⟩:=I.cell x c e
 obtain ⟨m,⟨o',es,ep,ho',hd',_⟩,_⟩:=I.loc
 rw [z,ho'] at ho;cases ho;rw [hd'] at hd;cases hd
theorem Inv.funs (I:Inv X pins σ H s):s.heap.FunFrames X.base X.outer:=by
 have all:∀ (l:List Env),(∀ b ∈ frs l,b ∈ X.fs)->X.s₀.heap.FunFrames X.base l->s.heap.FunFrames X.base l:=by
  intro l
  induction l with
  | nil=>intro _ _;trivial
  | cons env r ih =>
    intro hs hl
    obtain ⟨hk,⟨L,o,hf,hn,ho,hd⟩,hr⟩:=hl
    have hL:L ∈ X.fs:=hs L (by unfold frs;rw [List.filterMap_cons,hf];exact List.mem_cons_self)
    obtain ⟨sl,e⟩:=I.base.slot L o ho (I.ok.frf L hL) hL fun z=>I.ok.exfs L z hL
    exact ⟨hk,⟨L,_,hf,hn,e,hd⟩,ih (fun b hb=>hs b (by unfold frs;rw [List.filterMap_cons,hf];exact List.mem_cons_of_mem _ hb)) hr⟩
 exact all X.outer (fun _ hb=>hb) I.ok.funs
theorem Inv.stack (I:Inv X pins σ H s):s.heap.FunFrames X.base X.stack:=by
 rcases I.ok.stk with e | ⟨e,hf⟩
 ·rw [e];exact I.funs
 ·rw [e]
  obtain ⟨m,hn,_⟩:=I.loc
  refine .cons (by rw [I.ok.kind];decide) hf hn ?_ I.funs
  exact Heap.get?_none_of_le (Nat.le_trans I.ok.bsz I.ok.above)
theorem Inv.stkSub (I:Inv X pins σ H s):∀ b ∈ frs X.stack,b ∈ X.env.locals::X.fs:=fun b hb=>by
 rcases I.ok.stk with e | ⟨e,hf⟩
 ·rw [e] at hb;exact List.mem_cons_of_mem _ hb
 ·rw [e] at hb
  unfold frs at hb
  rw [List.filterMap_cons,hf] at hb
  exact hb
theorem Inv.stkFree (I:Inv X pins σ H s):∀ b ∈ frs X.stack,H b=none:=fun b hb=>by
 rcases List.mem_cons.mp (I.stkSub b hb) with e | hb
 ·rw [e];exact I.free
 ·obtain ⟨_,o,ho,_⟩:=I.ok.funs.mem hb
  exact I.base.free b o ho (I.ok.frf b hb) fun z=>I.ok.exfs b z hb
theorem Inv.step {g':Array GenState} {t':Nat} {d':Drawn} {ch:List Addr} (I:Inv X pins σ H s)
 (hch:∀ b ∈ ch,(b ∈ X.ex\/X.s₀.heap.objs.size<=b)/\b ≠ X.env.locals/\(∀ x c,X.env.cells.lookup x=some c->c ≠ b)/\∀ p ∈ X.pn++pins,p.1 ≠ b)
 (keep:∀ b o,b ≠ X.env.locals->b ∉ X.fs->b ∉ ch->s.heap.get? b=some o->H b=none->h'.get? b=some o)
 (slot:∀ b o,b ≠ X.env.locals->b ∈ X.fs->b ∉ ch->s.heap.get? b=some o->H b=none->∃ sl,h'.get? b=some { o with slots:=sl }) (free:∀ b o,b ∉ ch->s.heap.get? b=some o->H b=none->H' b=none)
 (there:∀ b o,b ∉ ch->s.heap.get? b=some o->∃ o',h'.get? b=some o')
 (tups:∀ b xs,H b=some (.tup xs)->H' b=some (.tup xs)) (frzs:∀ b o u,H b=some (.frz o u)->H' b=some (.frz o u)) (tbls:∀ b ps,H b=some (.tbl ps)->∃ more,H' b=some (.tbl (ps++more)))
 (ns:∀ m,s.heap.Ns X.env.locals m->h'.Ns X.env.locals m) (hok:HOk X.prog X.w H' h') (hg:AllBare g') :
 Inv X pins σ H' { s with heap:=h',gens:=g',drawn:=d',toks:=t' }:=by
 have neL:∀ b o,X.s₀.heap.get? b=some o->b ≠ X.env.locals:=fun b o e=>Nat.ne_of_lt (Nat.lt_of_lt_of_le (Heap.lt_size e) I.ok.above)
 have neC:∀ b o,X.s₀.heap.get? b=some o->b ∉ X.ex->b ∉ ch:=fun b o e hx hb=>by
  rcases (hch b hb).1 with z | z
  ·exact hx z
  ·exact absurd (Nat.lt_of_lt_of_le (Heap.lt_size e) z) (Nat.lt_irrefl _)
 have cellK:∀ x c,X.env.cells.lookup x=some c->∀ v,s.heap.IsCell c v->h'.IsCell c v:=fun x c e v ⟨o,ho,hd⟩=>by
  have nch:c ∉ ch:=fun z=>(hch c z).2.2.1 x c e rfl
  by_cases hc:c ∈ X.fs
  ·obtain ⟨sl,q⟩:=slot c o (I.cne x c e) hc nch ho (I.freeC x c e)
   exact ⟨_,q,hd⟩
  ·exact ⟨o,keep c o (I.cne x c e) hc nch ho (I.freeC x c e),hd⟩
 refine ⟨I.ok,I.os,hg,⟨fun b o e n hb hx=>?_,fun b o e n hb hx=>?_,fun b o e n hx=>?_,fun b o e hx=>?_,fun b xs e=>tups b xs (I.base.tups b xs e),fun b o xs e=>frzs b o xs (I.base.frzs b o xs e),fun b ps e=>?_⟩,?_,fun x c e=>?_,?_,fun x c e=>?_,fun p hp=>?_,hok,I.len⟩
 ·exact keep b o (neL b o e) hb (neC b o e hx) (I.base.keep b o e n hb hx) (I.base.free b o e n hx)
 ·obtain ⟨sl,e1⟩:=I.base.slot b o e n hb hx
  obtain ⟨sl',e2⟩:=slot b _ (neL b o e) hb (neC b o e hx) e1 (I.base.free b o e n hx)
  exact ⟨sl',e2⟩
 ·obtain ⟨o',e1⟩:=I.base.there b o e hx
  exact free b o' (neC b o e hx) e1 (I.base.free b o e n hx)
 ·obtain ⟨o',e1⟩:=I.base.there b o e hx
  exact there b o' (neC b o e hx) e1
 ·obtain ⟨m1,e1⟩:=I.base.tbls b ps e
  obtain ⟨m2,e2⟩:=tbls b _ e1
  exact ⟨m1++m2,by rw [e2,Array.append_assoc]⟩
 ·obtain ⟨m,hn,hl⟩:=I.loc
  refine ⟨m,ns m hn,fun i x v e1 e2 e3=>?_⟩
  obtain ⟨u,r,l⟩:=hl i x v e1 e2 e3
  refine ⟨u,r,?_⟩
  rcases l with l | ⟨k,c,e,z⟩
  ·exact .inl l
  ·exact .inr ⟨k,c,e,cellK x c e _ z⟩
 ·obtain ⟨v,z⟩:=I.cell x c e
  exact ⟨v,cellK x c e v z⟩
 ·obtain ⟨m,⟨o,_,_,ho,_⟩,_⟩:=I.loc
  exact free _ o (fun z=>(hch _ z).2.1 rfl) ho I.free
 ·obtain ⟨v,o,ho,hd⟩:=I.cell x c e
  exact free c o (fun z=>(hch c z).2.2.1 x c e rfl) ho (I.freeC x c e)
 ·obtain ⟨e,n,ne,nf,d⟩:=I.pin p hp
  have nch:p.1 ∉ ch:=fun z=>(hch p.1 z).2.2.2 p hp rfl
  exact ⟨keep p.1 p.2 ne nf nch e n,free p.1 p.2 nch e n,ne,nf,d⟩
theorem Inv.un {t':Nat} (I:Inv X pins σ H s) (u:Un X.fs [] H H' s.heap h') (hok:HOk X.prog X.w H' h'):Inv X pins σ H' { s with heap:=h',toks:=t' }:=by
 obtain ⟨m,⟨o,es,ep,ho,r⟩,_⟩:=id I.loc
 obtain ⟨sl,hL⟩:=u.any ho I.free (by simp)
 exact I.step (g':=s.gens) (d':=s.drawn) (ch := []) (fun _ z=>nomatch z) (fun b o _ hb _ e n=>u.keep b o e n hb (by simp)) (fun b o _ hb _ e n=>u.slot b o e n hb (by simp)) (fun b o _ e n=>u.free b o e n (by simp)) (fun b o _ e=>u.there b o e (by simp)) u.tups u.frzs u.tbls (fun m' hm=>by
  obtain ⟨o',es',ep',ho',r'⟩:=hm
  rw [ho] at ho';cases ho'
  exact ⟨_,es',ep',hL,r'⟩) hok I.bare
theorem Inv.call {g':Array GenState} {t':Nat} {d':Drawn} {ch:List Addr} (I:Inv X pins σ H s) (u:Un (frs X.stack) ch H H' s.heap h') (hok:HOk X.prog X.w H' h') (hg:AllBare g')
 (hch:∀ b ∈ ch,(b ∈ X.ex\/X.s₀.heap.objs.size<=b)/\b ≠ X.env.locals/\(∀ x c,X.env.cells.lookup x=some c->c ≠ b)/\∀ p ∈ X.pn++pins,p.1 ≠ b) :
 Inv X pins σ H' { s with heap:=h',gens:=g',drawn:=d',toks:=t' }:=by
 obtain ⟨m,⟨o,es,ep,ho,r⟩,_⟩:=id I.loc
 obtain ⟨sl,hL⟩:=u.any ho I.free fun z=>(hch _ z).2.1 rfl
 exact I.step (ch:=ch) hch (fun b o hL hb hc e n=>u.keep b o e n (fun z=>(List.mem_cons.mp (I.stkSub b z)).elim hL hb) hc) (fun b o _ _ hc e n=>u.any e n hc) (fun b o hc e n=>u.free b o e n hc) (fun b o hc e=>u.there b o e hc) u.tups u.frzs u.tbls (fun m' hm=>by
  obtain ⟨o',es',ep',ho',r'⟩:=hm
  rw [ho] at ho';cases ho'
  exact ⟨_,es',ep',hL,r'⟩) hok hg
theorem Inv.turned {t':Nat} {it:Addr} (I:Inv X pins σ H s) (k:∀ b o,b ≠ it->s.heap.get? b=some o->h'.get? b=some o) (hn:H it=none) (hL:it ≠ X.env.locals)
 (h1:it ∈ X.ex\/X.s₀.heap.objs.size<=it) (h2:∀ x c,X.env.cells.lookup x=some c->c ≠ it) (h3:∀ p ∈ X.pn++pins,p.1 ≠ it):Inv X pins σ H { s with heap:=h',toks:=t' }:=by
 have nit:∀ b u,H b=some u->b ≠ it:=fun b u e z=>by rw [z,hn] at e;cases e
 refine I.step (g':=s.gens) (d':=s.drawn) (ch := [it]) (fun b hb=>?_) (fun b o _ _ hc e _=>k b o (fun z=>hc (by simp [z])) e) (fun b o _ _ hc e _=>⟨o.slots,k b o (fun z=>hc (by simp [z])) e⟩) (fun _ _ _ _ n=>n)
  (fun b o hc e=>⟨o,k b o (fun z=>hc (by simp [z])) e⟩) (fun _ _ e=>e) (fun _ _ _ e=>e) (fun b ps e=>⟨#[],by rw [e];simp⟩) (fun m hm=>?_) (fun b u e=>?_) I.bare
 ·have e:b=it:=by simpa using hb
  subst e
  exact ⟨h1,hL,h2,h3⟩
 ·obtain ⟨o,es,ep,ho,r⟩:=hm
  exact ⟨o,es,ep,k _ o (Ne.symm hL) ho,r⟩
 ·refine (I.hok b u e).stay (fun c v hc q=>k c v ?_ q) (fun _ q=>q) fun _ _ q=>q
  rcases hc with z | z
  ·rw [z];exact nit b u e
  ·exact nit c _ z
theorem Inv.tok (I:Inv X pins σ H s) (t:Nat):Inv X pins σ H { s with toks:=t }:=I.un (h':=s.heap) (t':=t) Un.refl I.hok
theorem Inv.kept {t':Nat} (I:Inv X pins σ H s) (k:∀ b u,s.heap.get? b=some u->h'.get? b=some u):Inv X pins σ H { s with heap:=h',toks:=t' }:=I.un (Un.kept k) (I.hok.kept k)
theorem Inv.laid {a:Addr} {o:HO} {t':Nat} (I:Inv X pins σ H s) (k:∀ b u,s.heap.get? b=some u->h'.get? b=some u) (hp:s.heap.objs.size<=a) (new:ObjOk X.prog X.w (upd H a o) h' a o) :
 Inv X pins σ (upd H a o) { s with heap:=h',toks:=t' }:=I.un (Un.laid k hp (I.hok.fresh hp)) (I.hok.laid k hp new)
theorem Inv.write {x e:Addr} {o:HO} {t':Nat} (I:Inv X pins σ H s) (mu:Mut (H x)) (he:e=x\/H e=some (.own x)) (k:∀ b u,b ≠ e->s.heap.get? b=some u->h'.get? b=some u) (heo:∃ u,h'.get? e=some u)
 (new:ObjOk X.prog X.w (upd H x o) h' x o):Inv X pins σ (upd H x o) { s with heap:=h',toks:=t' }:=I.un (Un.write mu he k heo) (I.hok.write mu he k heo new)
theorem Inv.weak {σ':List (Option V)} (I:Inv X pins σ H s) (hl:σ'.length=σ.length) (w:∀ (i:Nat) v,σ'[i]? = some (some v)->σ[i]? = some (some v)):Inv X pins σ' H s :=
 ⟨I.ok,I.os,I.bare,I.base,let ⟨m,hn,hl'⟩:=I.loc; ⟨m,hn,fun i x v e1 e2 e3=>hl' i x v e1 (w i v e2) e3⟩,I.cell,I.free,I.freeC,I.pin,I.hok,hl.trans I.len⟩
theorem Inv.pins_of {pins':List (Addr × Obj)} (I:Inv X pins σ H s) (h:∀ p ∈ pins',s.heap.get? p.1=some p.2/\H p.1=none/\p.1 ≠ X.env.locals/\p.1 ∉ X.fs/\∀ v,p.2.data ≠ .cell v):Inv X pins' σ H s :=
 ⟨I.ok,I.os,I.bare,I.base,I.loc,I.cell,I.free,I.freeC,fun p hp=>(List.mem_append.mp hp).elim (fun z=>I.pin p (List.mem_append_left _ z)) (h p),I.hok,I.len⟩
theorem zn0 {N:List Str} (hN:N.Nodup) {i j:Nat} {x:Str} (a:N[i]? = some x) (b:N[j]? = some x):i=j:=by
 obtain ⟨h1,e1⟩:=List.getElem?_eq_some_iff.mp a
 obtain ⟨h2,e2⟩:=List.getElem?_eq_some_iff.mp b
 exact (List.getElem_inj hN).mp (e1.trans e2.symm)
theorem ztd {M:Model} {A:Around} {E:Value->Shared->Prop} {i:Nat} {x:Str} {v:V} {u:Value} {Q:Unit->Shared->Prop} (I:Inv X pins σ H s) (hN:X.N.Nodup) (hi:X.N[i]? = some x) (hx:Loc X.env.scope x) (r:RelV v u)
 (h:∀ s',Inv X pins (σ.set i (some v)) H s'->(∃ a,Heap.SameBut a s.heap s'.heap/\(a=X.env.locals\/X.env.cells.lookup x=some a))->Q () s') (hf:X.fn x=true\/X.env.scope.names.lookup x=some .local:=by first | exact .inl rfl | exact .inr rfl | assumption):wpAny M A (storeName X.env x u) Q E s:=by
 obtain ⟨m,hn,hl⟩:=id I.loc
 have hcls:(X.env.scope.kind == .class || (X.env.scope.kind == .module && X.env.locals != X.env.globals))=false:=by rw [I.ok.kind];rfl
 have hiσ:i<σ.length:=by rw [I.len];exact (List.getElem?_eq_some_iff.mp hi).1
 have cne:=I.cne
 have tracked:∀ {a:Addr} {h':Heap},(∃ o,s.heap.get? a=some o/\H a=none)->Heap.SameBut a s.heap h'->HOk X.prog X.w H h':=fun {a h'} ha hs b ob e=>by
  obtain ⟨_,_,hfree⟩:=ha
  refine (I.hok b ob e).stay (fun c w' hc q=>(hs.2 c ?_).trans q) (fun _ q=>q) fun _ _ q=>q
  rintro rfl
  rcases hc with rfl | hc
  ·rw [hfree] at e;cases e
  ·rw [hfree] at hc;cases hc
 rcases hx with hk | hk
 ·refine wpAny_storeName_local hk hn (fun h' hn' hs=>?_) hcls
  obtain ⟨oL,_,_,hoL,_⟩:=id hn
  refine h _ ⟨I.ok,I.os,I.bare,⟨fun b o e n hb hx=>?_,fun b o e n hb hx=>?_,I.base.free,fun b o e hx=>?_,I.base.tups,I.base.frzs,I.base.tbls⟩,⟨_,hn',fun j y v' e1 e2 e3=>?_⟩,fun y c e=>?_,I.free,I.freeC,fun p hp=>?_,tracked ⟨oL,hoL,I.free⟩ hs,by simpa using I.len⟩ ⟨_,hs,.inl rfl⟩
  ·exact (hs.2 b (Nat.ne_of_lt (Nat.lt_of_lt_of_le (Heap.lt_size e) I.ok.above))).trans (I.base.keep b o e n hb hx)
  ·obtain ⟨sl,e1⟩:=I.base.slot b o e n hb hx
   exact ⟨sl,(hs.2 b (Nat.ne_of_lt (Nat.lt_of_lt_of_le (Heap.lt_size e) I.ok.above))).trans e1⟩
  ·obtain ⟨o',e1⟩:=I.base.there b o e hx
   exact ⟨o',(hs.2 b (Nat.ne_of_lt (Nat.lt_of_lt_of_le (Heap.lt_size e) I.ok.above))).trans e1⟩
  ·by_cases hj:j=i
   ·subst hj
    rw [hi] at e1;cases e1
    rw [List.getElem?_set_self hiσ] at e2
    cases e2
    exact ⟨u,r,.inl ⟨hk,by simp⟩⟩
   ·rw [List.getElem?_set_ne (Ne.symm hj)] at e2
    obtain ⟨u',r',q⟩:=hl j y v' e1 e2 e3
    refine ⟨u',r',?_⟩
    rcases q with ⟨k,e⟩ | ⟨k,c,e,z⟩
    ·refine .inl ⟨k,?_⟩
     have:y ≠ x:=fun e=>hj (zn0 hN e1 (e ▸ hi))
     simp [this,e]
    ·exact .inr ⟨k,c,e,z.sameBut hs (cne y c e)⟩
  ·obtain ⟨w',z⟩:=I.cell y c e
   exact ⟨w',z.sameBut hs (cne y c e)⟩
  ·obtain ⟨e,n,ne,nf,d⟩:=I.pin p hp
   exact ⟨(hs.2 p.1 ne).trans e,n,ne,nf,d⟩
 ·have hfn:X.fn x=true:=by
   rcases hf with z | z
   ·exact z
   ·rw [z] at hk;cases hk
  obtain ⟨c,hc⟩:=I.ok.has x (.inl hk)
  obtain ⟨w',z⟩:=I.cell x c hc
  refine wpAny_storeName_cell I.ok.kind hk hc z (fun h' hc' hs=>?_)
  obtain ⟨oc,hoc,hocd⟩:=id z
  refine h { s with heap:=h' } ⟨I.ok,I.os,I.bare,⟨fun b o e n hb hx=>?_,fun b o e n hb hx=>?_,I.base.free,fun b o e hx=>?_,I.base.tups,I.base.frzs,I.base.tbls⟩,⟨m,hn.sameBut hs (Ne.symm (cne x c hc)),fun j y v' e1 e2 e3=>?_⟩,fun y c' e=>?_,I.free,I.freeC,fun p hp=>?_,tracked ⟨oc,hoc,I.freeC x c hc⟩ hs,by simpa using I.len⟩ ⟨c,hs,.inr hc⟩
  ·exact (hs.2 b (Nat.ne_of_lt (Nat.lt_of_lt_of_le (Heap.lt_size e) (I.ok.cab x c hfn hc)))).trans (I.base.keep b o e n hb hx)
  ·obtain ⟨sl,e1⟩:=I.base.slot b o e n hb hx
   exact ⟨sl,(hs.2 b (Nat.ne_of_lt (Nat.lt_of_lt_of_le (Heap.lt_size e) (I.ok.cab x c hfn hc)))).trans e1⟩
  ·obtain ⟨o',e1⟩:=I.base.there b o e hx
   exact ⟨o',(hs.2 b (Nat.ne_of_lt (Nat.lt_of_lt_of_le (Heap.lt_size e) (I.ok.cab x c hfn hc)))).trans e1⟩
  ·by_cases hj:j=i
   ·subst hj
    rw [hi] at e1;cases e1
    rw [List.getElem?_set_self hiσ] at e2
    cases e2
    exact ⟨u,r,.inr ⟨.inl hk,c,hc,hc'⟩⟩
   ·rw [List.getElem?_set_ne (Ne.symm hj)] at e2
    obtain ⟨u',r',q⟩:=hl j y v' e1 e2 e3
    refine ⟨u',r',?_⟩
    rcases q with q | ⟨k,c',e,z'⟩
    ·exact .inl q
    ·refine .inr ⟨k,c',e,z'.sameBut hs ?_⟩
     rintro rfl
     exact hj (zn0 hN e1 (I.ok.inj _ _ _ e hc ▸ hi))
  ·by_cases hcc:c'=c
   ·subst hcc;exact ⟨_,hc'⟩
   ·obtain ⟨w2,z2⟩:=I.cell y c' e
    exact ⟨w2,z2.sameBut hs hcc⟩
  ·obtain ⟨e,n,ne,nf,d⟩:=I.pin p hp
   refine ⟨(hs.2 p.1 ?_).trans e,n,ne,nf,d⟩
   intro q
   rw [q,hoc] at e
   have q':oc=p.2:=Option.some.inj e
   exact d w' (by rw [<- q'];exact hocd)
theorem zlv {M:Model} {A:Around} {E:Value->Shared->Prop} {i:Nat} {x:Str} {v:V} {u:Value} {Q:Unit->Shared->Prop} (I:Inv X pins σ H s) (hN:X.N.Nodup) (hi:X.N[i]? = some x) (hx:Loc X.env.scope x) (r:RelV v u)
 (h:∀ s',Inv X pins (σ.set i (some v)) H s'->Q () s') (hf:X.fn x=true\/X.env.scope.names.lookup x=some .local:=by first | exact .inl rfl | exact .inr rfl | assumption):wpAny M A (storeName X.env x u) Q E s :=
 ztd I hN hi hx r (fun s' I' _=>h s' I') hf
theorem Inv.call' {s':Shared} {ch:List Addr} (I:Inv X pins σ H s) (ho:s'.os=s.os) (u:Un (frs X.stack) ch H H' s.heap s'.heap) (hok:HOk X.prog X.w H' s'.heap) (hg:AllBare s'.gens)
 (hch:∀ b ∈ ch,(b ∈ X.ex\/X.s₀.heap.objs.size<=b)/\b ≠ X.env.locals/\(∀ x c,X.env.cells.lookup x=some c->c ≠ b)/\∀ p ∈ X.pn++pins,p.1 ≠ b):Inv X pins σ H' s':=by
 obtain ⟨h',g',d',t',o'⟩:=s'
 have e:o'=s.os:=ho
 subst e
 exact I.call (g':=g') (t':=t') (d':=d') u hok hg hch
end
noncomputable abbrev XK:=Value->Option Addr->Hp->Prop
noncomputable abbrev St:=List (Option V)
noncomputable abbrev VK:=V->Hp->Prop
noncomputable abbrev TE:=St->Hp->VK->Prop
noncomputable abbrev TT:=St->Hp->(Bool->Hp->Prop)->Prop
noncomputable abbrev TA:=St->Hp->(List V->Hp->Prop)->Prop
structure Ends where
 nx:St->Hp->Prop
 rt:VK
 bk:St->Hp->Prop:=fun _ _=>False
 ct:St->Hp->Prop:=fun _ _=>False
noncomputable abbrev TS:=Ends->St->Hp->Prop
noncomputable def EP (X:Cx) (pins:List (Addr × Obj)) (σ:St) (Q:VK) (u:Value) (s':Shared):Prop:=∃ v H',Inv X pins σ H' s'/\RelV v u/\Q v H'
noncomputable def TP (X:Cx) (pins:List (Addr × Obj)) (σ:St) (Q:Bool->Hp->Prop) (b:Bool) (s':Shared):Prop:=∃ H',Inv X pins σ H' s'/\Q b H'
noncomputable def AP (X:Cx) (pins:List (Addr × Obj)) (σ:St) (Q:List V->Hp->Prop) (us:List Value) (s':Shared):Prop:=∃ vs H',Inv X pins σ H' s'/\Vals vs us/\Q vs H'
noncomputable def SP (X:Cx) (pins:List (Addr × Obj)) (D:Ends) (f:Flow) (s':Shared):Prop :=
 match f with
 | .next=>∃ σ' H',Inv X pins σ' H' s'/\D.nx σ' H'
 | .brk=>∃ σ' H',Inv X pins σ' H' s'/\D.bk σ' H'
 | .cont=>∃ σ' H',Inv X pins σ' H' s'/\D.ct σ' H'
 | .ret u=>∃ v σ' H',Inv X pins σ' H' s'/\RelV v u/\D.rt v H'
noncomputable def PE (X:Cx) (e:Expr) (t:TE):Prop :=
 ∀ (pins:List (Addr × Obj)) (s:Shared) (σ:St) (H:Hp) (Q:VK),Inv X pins σ H s->t σ H Q->wpAny (model X.prog X.w) X.A (eval e X.env) (EP X pins σ Q) X.xe s
noncomputable def PT (X:Cx) (e:Expr) (t:TT):Prop :=
 ∀ (pins:List (Addr × Obj)) (s:Shared) (σ:St) (H:Hp) (Q:Bool->Hp->Prop),Inv X pins σ H s->t σ H Q->wpAny (model X.prog X.w) X.A (isTrue e X.env (eval e X.env)) (TP X pins σ Q) X.xe s
noncomputable def PW (X:Cx) (e:Expr) (t:TT):Prop :=
 ∀ (whole:Sem Value) (pins:List (Addr × Obj)) (s:Shared) (σ:St) (H:Hp) (Q:Bool->Hp->Prop),Inv X pins σ H s->t σ H Q->wpAny (model X.prog X.w) X.A (isTrue e X.env whole) (TP X pins σ Q) X.xe s
theorem PW.pt {X:Cx} {e:Expr} {t:TT} (h:PW X e t):PT X e t:=h _
noncomputable def PA (X:Cx) (es:List Expr) (t:TA):Prop :=
 ∀ (pos:Pos) (pins:List (Addr × Obj)) (s:Shared) (σ:St) (H:Hp) (Q:List V->Hp->Prop),Inv X pins σ H s->t σ H Q->wpAny (model X.prog X.w) X.A (spliced (backTo pos (starEach es X.env))) (AP X pins σ Q) X.xe s
noncomputable def PS (X:Cx) (st:Stmt) (t:TS):Prop :=
 ∀ (pins:List (Addr × Obj)) (s:Shared) (σ:St) (H:Hp) (D:Ends),Inv X pins σ H s->t D σ H->wpAny (model X.prog X.w) X.A (exec st X.env) (SP X pins D) X.xe s
noncomputable def PSs (X:Cx) (st:List Stmt) (t:TS):Prop :=
 ∀ (pins:List (Addr × Obj)) (s:Shared) (σ:St) (H:Hp) (D:Ends),Inv X pins σ H s->t D σ H->wpAny (model X.prog X.w) X.A (execs st X.env) (SP X pins D) X.xe s
theorem thn {α:Type} {t:Sem α} {Q Q':α->Shared->Prop} {M:Model} {A:Around} {E:Value->Shared->Prop} {s:Shared} (h:wpAny M A t Q E s) (hQ:∀ a s,Q a s->Q' a s):wpAny M A t Q' E s:=wpAny_mono h hQ fun _ _ x=>x
end L2
namespace L2
open PySem PySem.Spec PyProof.Rows
section
variable {X : Cx}
noncomputable def tVar (i:Nat):TE:=fun σ H Q=>∃ v,σ[i]? = some (some v)/\Q v H
noncomputable def tC (v:V):TE:=fun _ H Q=>Q v H
theorem zak {i:Nat} {x:Str} {pos:Pos} (hN:X.N[i]? = some x) (hv:Vis X.env.scope x) (hd:(x == ("__debug__" : Str))=false:=by decide) (hcd:(x == ("__classdict__" : Str))=false:=by decide):PE X (.Name x pos) (tVar i):=by
 intro pins s σ H Q I h
 obtain ⟨v,e,h⟩:=h
 obtain ⟨m,hn,hl⟩:=I.loc
 obtain ⟨u,r,l⟩:=hl i x v hN e hv
 have fin:EP X pins σ Q u s:=⟨v,H,I,r,h⟩
 rcases l with ⟨hk,hm⟩ | ⟨hk,c,hc,hcell⟩
 ·exact wpAny_Name (wpAny_loadName_local I.ok.kind hk hn hm fin) hd
 ·rcases hk with hk | hk
  ·exact wpAny_Name (wpAny_loadName_cell I.ok.kind hk hc hcell fin) hd
  ·exact wpAny_Name (wpAny_loadName_free I.ok.kind hk hc hcell fin hcd) hd
theorem zal {i j pos}:PE X (.Constant (.int i) j pos) (tC (.int i)):=fun _ _ _ H _ I h=>wpAny_Constant_int ⟨.int i,H,I.tok _,⟨_,rfl⟩,h⟩
theorem z4e {b j pos}:PE X (.Constant (.bool b) j pos) (tC (.bl b)):=fun _ _ _ H _ I h=>Constant_bool ⟨.bl b,H,I,rfl,h⟩
theorem z0x {j pos}:PE X (.Constant .none j pos) (tC .non):=fun _ _ _ H _ I h=>Constant_none ⟨.non,H,I,rfl,h⟩
theorem zm6 {x j pos}:PE X (.Constant (.str x) j pos) (tC (.str x)):=fun _ _ _ H _ I h=>Calls.Constant_str ⟨.str x,H,I.tok _,⟨_,rfl⟩,h⟩
noncomputable def Gl (X:Cx) (x:Str):Prop:=X.env.kindOf x=some .globalImplicit
theorem zxk {E:Value->Shared->Prop} {pins:List (Addr × Obj)} {s:Shared} {σ:St} {H:Hp} {x:Str} {u:Value} {pos:Pos} {Q:Value->Shared->Prop} (I:Inv X pins σ H s) (hg:Gl X x) (hm:X.mg x=some u) (h:Q u s)
 (hd:(x == ("__debug__" : Str))=false:=by decide):wpAny (model X.prog X.w) X.A (eval (.Name x pos) X.env) Q E s :=
 Calls.Name_function_global I.ok.kind hg (Calls.loadGlobal_global (by rw [I.ok.glob];exact I.mod.glob.keeps I.bk) hm h) hd
theorem zc0 {E:Value->Shared->Prop} {pins:List (Addr × Obj)} {s:Shared} {σ:St} {H:Hp} {x:Str} {u:Value} {pos:Pos} {Q:Value->Shared->Prop} (I:Inv X pins σ H s) (hg:Gl X x) (hm:X.mg x=none) (hv:bootBuiltins x=some u) (h:Q u s)
 (hn:x ≠ "__name__" := by decide) (hd:(x == ("__debug__" : Str))=false:=by decide):wpAny (model X.prog X.w) X.A (eval (.Name x pos) X.env) Q E s:=by
 obtain ⟨mb,h1,h2⟩:=I.mod.blt
 exact Calls.Name_function_global I.ok.kind hg (Calls.loadGlobal_builtin (by rw [I.ok.glob];exact I.mod.glob.keeps I.bk) hm (by rw [I.ok.blt];exact h1.keeps I.bk) ((h2 x hn).trans hv) h) hd
variable {a b : Expr} {ta tb : TE} {pos : Pos}
noncomputable def PC (X:Cx) (op:CmpOp) (a b:Expr) (t:TE):Prop :=
 ∀ (pins:List (Addr × Obj)) (s:Shared) (σ:St) (H:Hp) (Q:VK),Inv X pins σ H s->t σ H Q ->
   wpAny (model X.prog X.w) X.A (eval a X.env) (fun v s₁=>wpAny (model X.prog X.w) X.A (eval b X.env) (fun u s₂=>wpAny (model X.prog X.w) X.A (compareOp op v u) (EP X pins σ Q) X.xe s₂) X.xe s₁) X.xe s
noncomputable def tB (t:TE):TT:=fun σ H Q=>t σ H fun x H1=>∃ c,x = .bl c/\Q c H1
theorem zto {op:CmpOp} {t:TE} (h:PC X op a b t) (h1:behindInMarks op b=false:=by first | exact nobehind _ (by decide) (by decide) | rfl):PT X (.Compare a [op] [b] pos) (tB t):=by
 intro pins s σ H Q I hw
 refine wpAny_isTrue_Compare1 (thn (h pins s σ H _ I hw) fun v s1 h1=>thn h1 fun u s2 h2=>thn h2 fun c s3 ⟨x,H1,I1,r1,q1⟩=>?_) h1
 obtain ⟨d,rfl,q⟩:=q1
 cases r1
 exact wpAny_truthy_bool ⟨H1,I1,q⟩
theorem z0z {e:Expr} {t:TE} (h:PE X e t) (he:∀ whole,isTrue e X.env whole=(do let v <- whole;standAt e.pos;holding [v] (truthy v)):=by intro _;rfl):PT X e (tB t):=by
 intro pins s σ H Q I hw
 refine isTrue_plain (thn (h pins s σ H _ I hw) fun v s1 ⟨x,H1,I1,r1,q1⟩=>?_) (he _)
 obtain ⟨d,rfl,q⟩:=q1
 cases r1
 exact wpAny_truthy_bool ⟨H1,I1,q⟩
variable {tA tB' : TT} {rest : List Expr}
noncomputable def tAnd (t u:TT):TT:=fun σ H Q=>t σ H fun c H1=>if c=true then u σ H1 Q else Q false H1
noncomputable def tOr (t u:TT):TT:=fun σ H Q=>t σ H fun c H1=>if c=true then Q true H1 else u σ H1 Q
noncomputable def tNot (t:TT):TT:=fun σ H Q=>t σ H fun c H1=>Q (!c) H1
theorem zox (ha:PT X a tA):PW X (.BoolOp .And [a] pos) tA:=by
 intro wh pins s σ H Q I h
 refine isTrue_and (thn (ha pins s σ H Q I h) fun c s1 e=>?_)
 cases c with
 | true=>exact isTrue_and_nil e
 | false=>exact e
theorem z3c (ha:PT X a tA):PW X (.BoolOp .Or [a] pos) tA:=by
 intro wh pins s σ H Q I h
 refine isTrue_or (thn (ha pins s σ H Q I h) fun c s1 e=>?_)
 cases c with
 | false=>exact isTrue_or_nil e
 | true=>exact e
theorem zrv (ha:PT X a tA) (hb:PW X (.BoolOp .And (b::rest) pos) tB'):PW X (.BoolOp .And (a::b::rest) pos) (tAnd tA tB'):=by
 intro wh pins s σ H Q I h
 refine isTrue_and (thn (ha pins s σ H _ I h) fun c s1 ⟨H1,I1,q1⟩=>?_)
 cases c with
 | true=>exact hb wh pins s1 σ H1 Q I1 q1
 | false=>exact ⟨H1,I1,q1⟩
theorem z3r (ha:PT X a tA) (hb:PW X (.BoolOp .Or (b::rest) pos) tB'):PW X (.BoolOp .Or (a::b::rest) pos) (tOr tA tB'):=by
 intro wh pins s σ H Q I h
 refine isTrue_or (thn (ha pins s σ H _ I h) fun c s1 ⟨H1,I1,q1⟩=>?_)
 cases c with
 | true=>exact ⟨H1,I1,q1⟩
 | false=>exact hb wh pins s1 σ H1 Q I1 q1
theorem z2g (ha:PT X a tA):PT X (.UnaryOp .Not a pos) (tNot tA):=by
 intro pins s σ H Q I h
 exact isTrue_not (ha pins s σ H (fun c H1=>Q (!c) H1) I h)
noncomputable def zwx (ta tb:TE):TE:=fun σ H Q=>ta σ H fun x H1=>∃ c,x = .bl c/\if c=true then tb σ H1 Q else Q (.bl false) H1
theorem z2c {op} {t:TE} (h:PE X a t):PE X (.BoolOp op [a] pos) t:=fun pins s σ H Q I hw=>BoolOp_one (h pins s σ H Q I hw)
theorem z1y (ha:PE X a ta) (hb:PE X (.BoolOp .And (b::rest) pos) tb):PE X (.BoolOp .And (a::b::rest) pos) (zwx ta tb):=by
 intro pins s σ H Q I h
 refine BoolOp_and (thn (ha pins s σ H _ I h) fun v s1 ⟨x,H1,I1,r1,q1⟩=>?_)
 obtain ⟨c,rfl,q1⟩:=q1
 cases r1
 refine wpAny_truthy_bool ?_
 cases c with
 | true=>exact hb pins s1 σ H1 Q I1 q1
 | false=>exact ⟨.bl false,H1,I1,rfl,q1⟩
noncomputable def tIf (t:TT) (ta tb:TE):TE:=fun σ H Q=>t σ H fun c H1=>if c=true then ta σ H1 Q else tb σ H1 Q
theorem zvd {c:Expr} (hc:PT X c tA) (ha:PE X a ta) (hb:PE X b tb):PE X (.IfExp c a b pos) (tIf tA ta tb):=by
 intro pins s σ H Q I h
 refine wpAny_IfExp (thn (hc pins s σ H _ I h) fun d s1 ⟨H1,I1,q1⟩=>?_)
 cases d with
 | true=>exact ha pins s1 σ H1 Q I1 q1
 | false=>exact hb pins s1 σ H1 Q I1 q1
end
end L2
namespace L2
open PySem PySem.Spec PyProof.Rows
noncomputable def SqL (K:PySem.W.Frag) (H:Hp) (a:Addr) (xs:List V):Prop :=
 Rd H a (.lst xs) \/
  ∃ (o:Obj) (its:Array Value) (n:Nat),K.lookup a=some o/\o.cls = .type "list" /\ o.dict=none/\o.data = .seq its n/\its.size<=sizeLine/\Vals xs its.toList
noncomputable def SqT (K:PySem.W.Frag) (H:Hp) (a:Addr) (xs:List V):Prop :=
 Rd H a (.tup xs) \/
  ∃ (o:Obj) (its:Array Value) (n:Nat),K.lookup a=some o/\o.cls = .type "tuple" /\ o.data = .seq its n/\its.size<=sizeLine/\Vals xs its.toList
noncomputable def absV:Value->Option V
 | .none=>some .non
 | .bool b=>some (.bl b)
 | .int i _=>some (.int i)
 | .str x _=>some (.str x)
 | .bytes b _=>some (.byt b)
 | .float b _=>some (.flt b)
 | .ref a=>some (.ref a)
 | .type n=>some (.ty n)
 | _=>none
theorem RelV.abs {x:V} {u:Value} (r:RelV x u):absV u=some x:=by
 cases x with
 | non=>cases r;rfl
 | bl _=>cases r;rfl
 | int _=>obtain ⟨t,rfl⟩:=r;rfl
 | str _=>obtain ⟨t,rfl⟩:=r;rfl
 | byt _=>obtain ⟨t,rfl⟩:=r;rfl
 | flt _=>obtain ⟨t,rfl⟩:=r;rfl
 | ref _=>cases r;rfl
 | ty _=>cases r;rfl
theorem RelV.inj {x y:V} {u:Value} (r:RelV x u) (q:RelV y u):x=y:=Option.some.inj (r.abs.symm.trans q.abs)
theorem Vals.inj:∀ {xs ys:List V} {us:List Value},Vals xs us->Vals ys us->xs=ys
 | _,_,_,.nil,.nil=>rfl
 | _,_,_,.cons r t,.cons r' t'=>by rw [r.inj r',Vals.inj t t']
section
variable {X : Cx} {pins : List (Addr × Obj)} {σ : St} {H : Hp} {s : Shared} {a : Addr} {xs ys : List V}
theorem SqL.of {K:PySem.W.Frag} (h:H a=some (.lst xs)):SqL K H a xs := .inl (.inl h)
theorem SqT.of {K:PySem.W.Frag} (h:H a=some (.tup xs)):SqT K H a xs := .inl (.inl h)
theorem Inv.list (I:Inv X pins σ H s) (h:SqL X.K H a xs):∃ its:List Value,Vals xs its/\PlainL s.heap a its.toArray/\xs.length<=sizeLine:=by
 rcases h with h | ⟨o,its,n,hk,hc,hd,hs,hz,r⟩
 ·obtain ⟨z,its,n,r,e⟩:=h.ok I.hok
  exact ⟨its,r,⟨_,n,e,rfl,rfl,rfl⟩,z⟩
 ·refine ⟨its.toList,r,⟨o,n,I.kIn a o hk,hc,hd,by simpa using hs⟩,?_⟩
  have e:=r.length
  simp only [Array.length_toList] at e
  lia
theorem Inv.tuple (I:Inv X pins σ H s) (h:SqT X.K H a xs):∃ its:List Value,Vals xs its/\IsTup s.heap a its.toArray/\xs.length<=sizeLine:=by
 rcases h with h | ⟨o,its,n,hk,hc,hs,hz,r⟩
 ·obtain ⟨z,its,r,p⟩:=h.ok I.hok
  exact ⟨its,r,p,z⟩
 ·refine ⟨its.toList,r,⟨o,I.kIn a o hk,hc,n,by simpa using hs⟩,?_⟩
  have e:=r.length
  simp only [Array.length_toList] at e
  lia
theorem Inv.list_inj (I:Inv X pins σ H s) (h:SqL X.K H a xs) (h':SqL X.K H a ys):xs=ys:=by
 obtain ⟨its,r,⟨o,n,e,_,_,d⟩,_⟩:=I.list h
 obtain ⟨its',r',⟨o',n',e',_,_,d'⟩,_⟩:=I.list h'
 rw [e] at e';cases e'
 rw [d] at d'
 injection d' with d1 _
 have:its=its':=by simpa using congrArg Array.toList d1
 subst this
 exact r.inj r'
theorem Inv.tuple_inj (I:Inv X pins σ H s) (h:SqT X.K H a xs) (h':SqT X.K H a ys):xs=ys:=by
 obtain ⟨its,r,⟨o,e,_,n,d⟩,_⟩:=I.tuple h
 obtain ⟨its',r',⟨o',e',_,n',d'⟩,_⟩:=I.tuple h'
 rw [e] at e';cases e'
 rw [d] at d'
 injection d' with d1 _
 have:its=its':=by simpa using congrArg Array.toList d1
 subst this
 exact r.inj r'
end
noncomputable abbrev Cx.wish (X:Cx) (E:Value->Shared->Prop):Cx:={ X with xe:=E }
noncomputable abbrev Cx.nox (X:Cx):Cx:=X.wish fun _ _=>False
theorem Cx.Ok.wish {X:Cx} (ok:X.Ok) (E:Value->Shared->Prop):(X.wish E).Ok :=
 ⟨ok.mod,ok.kind,ok.glob,ok.blt,ok.above,ok.inj,ok.has,ok.cab,ok.hd,ok.frames,ok.stk,ok.exf,ok.bs,ok.bsz,ok.noex,ok.exfs,ok.funs,ok.frf⟩
theorem Cx.Ok.unwish {X:Cx} {E:Value->Shared->Prop} (ok:(X.wish E).Ok):X.Ok :=
 ⟨ok.mod,ok.kind,ok.glob,ok.blt,ok.above,ok.inj,ok.has,ok.cab,ok.hd,ok.frames,ok.stk,ok.exf,ok.bs,ok.bsz,ok.noex,ok.exfs,ok.funs,ok.frf⟩
section
variable {X : Cx} {pins : List (Addr × Obj)} {σ : St} {H : Hp} {s : Shared} {E : Value → Shared → Prop}
theorem Inv.wish (I:Inv X pins σ H s) (E:Value->Shared->Prop):Inv (X.wish E) pins σ H s:=⟨I.ok.wish E,I.os,I.bare,I.base,I.loc,I.cell,I.free,I.freeC,I.pin,I.hok,I.len⟩
theorem Inv.unwish (I:Inv (X.wish E) pins σ H s):Inv X pins σ H s:=⟨I.ok.unwish,I.os,I.bare,I.base,I.loc,I.cell,I.free,I.freeC,I.pin,I.hok,I.len⟩
theorem SP.unwish {D:Ends} {f:Flow} {s':Shared} (h:SP (X.wish E) pins D f s'):SP X pins D f s':=by
 cases f with
 | next=>obtain ⟨σ',H',I,q⟩:=h;exact ⟨σ',H',I.unwish,q⟩
 | brk=>obtain ⟨σ',H',I,q⟩:=h;exact ⟨σ',H',I.unwish,q⟩
 | cont=>obtain ⟨σ',H',I,q⟩:=h;exact ⟨σ',H',I.unwish,q⟩
 | ret u=>obtain ⟨v,σ',H',I,r,q⟩:=h;exact ⟨v,σ',H',I.unwish,r,q⟩
theorem PSs.nox {st:List Stmt} {t:TS} (h:PSs X.nox st t):PSs X st t:=fun pins s σ H D I hw =>
 wpAny_mono (h pins s σ H D (I.wish _) hw) (fun _ _ q=>q.unwish) fun _ _ z=>False.elim z
end
section
variable {X : Cx} {st : Stmt} {rest : List Stmt} {t u : TS} {e : Expr} {te : TE} {pos : Pos}
noncomputable def zlc:TS:=fun D σ H=>D.nx σ H
noncomputable def tSeq (t u:TS):TS:=fun D σ H=>t { D with nx:=u D } σ H
theorem zjt:PSs X [] zlc:=fun _ _ σ H _ I h=>wpAny_execs_nil ⟨σ,H,I,h⟩
theorem zba (h1:PS X st t) (h2:PSs X rest u):PSs X (st::rest) (tSeq t u):=by
 intro pins s σ H D I h
 refine wpAny_execs_cons (thn (h1 pins s σ H { D with nx:=u D } I h) fun f s1 q=>?_)
 cases f with
 | next =>
   obtain ⟨σ',H',I',q⟩:=q
   exact h2 pins s1 σ' H' D I' q
 | ret v=>exact q
 | brk=>exact q
 | cont=>exact q
theorem zct (h1:PS X st t):PSs X [st] t:=by
 intro pins s σ H D I h
 refine wpAny_execs_cons (thn (h1 pins s σ H D I h) fun f s1 q=>?_)
 cases f with
 | next=>exact wpAny_execs_nil q
 | ret v=>exact q
 | brk=>exact q
 | cont=>exact q
noncomputable def zw0:TS:=fun D σ H=>D.ct σ H
theorem zoc:PS X (.Continue pos) zw0:=fun _ _ σ H _ I h=>wpAny_Continue ⟨σ,H,I,h⟩
theorem Inv.quiet {pins:List (Addr × Obj)} {σ:St} {H:Hp} {s:Shared} (I:Inv X pins σ H s):interactive X.env=false:=by simp [interactive,I.ok.kind]
noncomputable def zep (te:TE):TS:=fun D σ H=>te σ H fun _ H1=>D.nx σ H1
theorem zgu (he:PE X e te) (hs:swapsWith e none pos.line X.env=pure false:=by rfl):PS X (.Expr e pos) (zep te):=by
 intro pins s σ H D I h
 exact wpAny_Expr_any (thn (he pins s σ H _ I h) fun v s1 ⟨x,H1,I1,r1,q1⟩=>⟨σ,H1,I1,q1⟩) I.quiet hs
noncomputable def tRet (te:TE):TS:=fun D σ H=>te σ H D.rt
theorem zf9 (he:PE X e te):PS X (.Return (some e) pos) (tRet te):=by
 intro pins s σ H D I h
 exact wpAny_Return_some (thn (he pins s σ H _ I h) fun v s1 ⟨x,H1,I1,r1,q1⟩=>⟨x,σ,H1,I1,r1,q1⟩)
noncomputable def tIfS (c:TT) (t u:TS):TS:=fun D σ H=>c σ H fun b H1=>if b=true then t D σ H1 else u D σ H1
theorem zre {c:Expr} {a b:List Stmt} {tc:TT} (hc:PT X c tc) (ha:PSs X a t) (hb:PSs X b u):PS X (.If c a b pos) (tIfS tc t u):=by
 intro pins s σ H D I h
 refine wpAny_If (thn (hc pins s σ H _ I h) fun d s1 ⟨H1,I1,q1⟩=>?_)
 cases d with
 | true=>exact ha pins s1 σ H1 D I1 q1
 | false=>exact hb pins s1 σ H1 D I1 q1
end
noncomputable abbrev TG:=V->St->Hp->(St->Hp->Prop)->Prop
noncomputable abbrev TGs:=List V->St->Hp->(St->Hp->Prop)->Prop
noncomputable def PG (X:Cx) (target:Expr) (t:TG):Prop :=
 ∀ (pins:List (Addr × Obj)) (s:Shared) (σ:St) (H:Hp) (v:V) (u:Value) (Q:St->Hp->Prop),Inv X pins σ H s->RelV v u->t v σ H Q ->
   wpAny (model X.prog X.w) X.A (assign target X.env u) (fun _ s'=>∃ σ' H',Inv X pins σ' H' s'/\Q σ' H') X.xe s
noncomputable def PGs (X:Cx) (ts:List Expr) (t:TGs):Prop :=
 ∀ (pins:List (Addr × Obj)) (s:Shared) (σ:St) (H:Hp) (vs:List V) (us:List Value) (Q:St->Hp->Prop),Inv X pins σ H s->Vals vs us->t vs σ H Q ->
   wpAny (model X.prog X.w) X.A (assignInOrder ((assignEach ts X.env).map (·.2)) us) (fun _ s'=>∃ σ' H',Inv X pins σ' H' s'/\Q σ' H') X.xe s
noncomputable abbrev TSet:=V->V->V->Hp->(Hp->Prop)->Prop
noncomputable def PSet (X:Cx) (t:TSet):Prop :=
 ∀ (pins:List (Addr × Obj)) (s:Shared) (σ:St) (H:Hp) (o i v:V) (ov iv u:Value) (Q:Hp->Prop),Inv X pins σ H s->RelV o ov->RelV i iv->RelV v u->t o i v H Q ->
   wpAny (model X.prog X.w) X.A (setItem ov iv u) (fun _ s'=>∃ H',Inv X pins σ H' s'/\Q H') X.xe s
section
variable {X : Cx} {pos : Pos}
noncomputable def za9 (i:Nat):TG:=fun v σ H Q=>Q (σ.set i (some v)) H
theorem zg5 {i:Nat} {x:Str} (hN:X.N.Nodup) (hi:X.N[i]? = some x) (hx:Loc X.env.scope x) (hf:X.fn x=true\/X.env.scope.names.lookup x=some .local:=by first | exact .inl rfl | exact .inr rfl | assumption):PG X (.Name x pos) (za9 i):=by
 intro pins s σ H v u Q I r h
 exact wpAny_assign_Name (zlv I hN hi hx r (fun s' I'=>⟨_,H,I',h⟩) hf)
noncomputable def gNil:TGs:=fun vs σ H Q=>vs = []/\Q σ H
noncomputable def zh7 (t:TG) (u:TGs):TGs:=fun vs σ H Q=>∃ v r,vs=v::r/\t v σ H fun σ' H'=>u r σ' H' Q
theorem zx8:PGs X [] gNil:=by
 intro pins s σ H vs us Q I r h
 obtain ⟨e,h⟩:=h
 subst e
 cases r
 exact assignInOrder_nil ⟨σ,H,I,h⟩
theorem zvi {e:Expr} {es:List Expr} {t:TG} {u:TGs} (h1:PG X e t) (h2:PGs X es u)
 (hs:(assignEach (e::es) X.env).map (·.2)=assign e X.env::(assignEach es X.env).map (·.2):=by rfl):PGs X (e::es) (zh7 t u):=by
 intro pins s σ H vs us Q I r h
 obtain ⟨v,vr,e1,h⟩:=h
 subst e1
 cases r with
 | cons r rr =>
   rw [hs]
   refine assignInOrder_cons (thn (h1 pins s σ H _ _ _ I r h) fun _ s1 ⟨σ1,H1,I1,q1⟩=>?_)
   exact h2 pins s1 σ1 H1 _ _ Q I1 rr q1
noncomputable def gTup (K:PySem.W.Frag) (n:Nat) (t:TGs):TG:=fun v σ H Q=>∃ a xs,v = .ref a/\SqT K H a xs/\xs.length=n/\t xs σ H Q
theorem zz6 {es:List Expr} {k:Nat} {t:TGs} {n:Nat} (hc:X.calm=true) (h:PGs X es t)
 (hn:(assignEach es X.env).length=n:=by rfl) (hst:(assignEach es X.env).findIdx? (·.1)=none:=by rfl):PG X (.Tuple es k pos) (gTup X.K n t):=by
 intro pins s σ H v u Q I r hw
 obtain ⟨a,xs,e1,hq,hl,hw⟩:=hw
 subst e1
 cases r
 obtain ⟨its,rv,ht,hz⟩:=I.tuple hq
 refine assign_Tuple_tuple (I.ok.hd hc) ht (by simp [hn,<- hl,rv.length]) hst fun h' hx=>?_
 have I1:Inv X pins σ H { s with heap:=h' }:=I.kept (t':=s.toks) fun b o e=>hx b o (Nat.ne_of_lt (Heap.lt_size e)) e
 exact h pins _ σ H xs _ Q I1 (by simpa using rv) hw
noncomputable def gSub (to ti:TE) (t:TSet):TG:=fun v σ H Q=>to σ H fun o H1=>ti σ H1 fun i H2=>t o i v H2 fun H3=>Q σ H3
theorem znx {o i:Expr} {to ti:TE} {t:TSet} (ho:PE X o to) (hi:PE X i ti) (hs:PSet X t)
 (ha:∀ v,assign (.Subscript o i pos) X.env v=(do
  let ov <- holding [v] (eval o X.env)
  let iv <- holding [v,ov] (eval i X.env)
  standAt pos
  holding [v,ov,iv] (setItem ov iv v)
  release [v,ov,iv] []):=by intro _;rfl):PG X (.Subscript o i pos) (gSub to ti t):=by
 intro pins s σ H v u Q I r h
 rw [ha]
 refine wpAny_bind (wpAny_holding (thn (ho pins s σ H _ I h) fun ov s1 ⟨x,H1,I1,r1,q1⟩=>?_))
 refine wpAny_bind (wpAny_holding (thn (hi pins s1 σ H1 _ I1 q1) fun iv s2 ⟨y,H2,I2,r2,q2⟩=>?_))
 refine wpAny_bind (wpAny_standAt (wpAny_bind (wpAny_holding (thn (hs pins s2 σ H2 x y v ov iv u _ I2 r1 r2 r q2) fun _ s3 ⟨H3,I3,q3⟩=>?_))))
 exact wpAny_release ⟨σ,H3,I3,q3⟩
noncomputable def tAsg (te:TE) (g:TG):TS:=fun D σ H=>te σ H fun x H1=>g x σ H1 D.nx
theorem zl5 {tg e:Expr} {te:TE} {g:TG} (he:PE X e te) (hg:PG X tg g) (hs:swapsWithSole [tg] e pos.line X.env=pure false:=by rfl) (hw:swappedStores [tg] e X.env=pure none:=by rfl)
 (h1:(assignEach [tg] X.env).map (·.2) = [assign tg X.env]:=by rfl):PS X (.Assign [tg] e pos) (tAsg te g):=by
 intro pins s σ H D I h
 refine wpAny_Assign_stores (thn (he pins s σ H _ I h) fun v s1 ⟨x,H1,I1,r1,q1⟩=>?_) hs hw
 rw [h1]
 exact thn (hg pins s1 σ H1 x v _ I1 r1 q1) fun _ s2 q=>q
theorem zb9 {i:Nat} {x:Str} {e:Expr} {te:TE} {pos':Pos} (hN:X.N.Nodup) (hi:X.N[i]? = some x) (hx:Loc X.env.scope x) (he:PE X e te) (hs:swapsWith e (some (.Name x pos')) pos.line X.env=pure false:=by rfl) (hf:X.fn x=true\/X.env.scope.names.lookup x=some .local:=by first | exact .inl rfl | exact .inr rfl | assumption) :
 PS X (.Assign [.Name x pos'] e pos) (tAsg te (za9 i)):=by
 intro pins s σ H D I h
 refine wpAny_Assign_Name (thn (he pins s σ H _ I h) fun v s1 ⟨y,H1,I1,r1,q1⟩=>?_) hs
 exact zlv I1 hN hi hx r1 (fun s2 I2=>⟨_,H1,I2,q1⟩) hf
end
section
variable {X : Cx} {pos : Pos}
noncomputable def zl9 (c:TT) (tb:TS):TS:=fun D σ H=>∃ W:Nat->St->Hp->Prop,(∃ m,W m σ H)/\∀ m σ H,W m σ H ->
 c σ H fun b H1=>if b=true then ∃ N:St->Hp->Prop,(∀ σ' H',N σ' H'->∃ m',m'<m/\W m' σ' H')/\tb { D with nx:=N,ct:=N,bk:=D.nx } σ H1 else D.nx σ H1
theorem zm9 {c:Expr} {body:List Stmt} {tc:TT} {tb:TS} (hp:PassesOwn (model X.prog X.w) X.A X.env X.xe) (hc:PT X c tc) (hb:PSs X body tb):PS X (.While c body [] pos) (zl9 tc tb):=by
 intro pins s σ H D I h
 obtain ⟨W,⟨m0,w0⟩,turn⟩:=h
 refine wpAny_While (codeAny_whileLoop (fun n s'=>∃ σ' H',Inv X pins σ' H' s'/\W n σ' H') ?_ m0 ⟨σ,H,I,w0⟩)
 rintro n s1 ⟨σ1,H1,I1,w1⟩
 refine wpAny_passesOwn hp (thn (hc pins s1 σ1 H1 _ I1 (turn n σ1 H1 w1)) fun b s2 ⟨H2,I2,q2⟩=>?_)
 cases b with
 | true =>
   obtain ⟨N,hN,q2⟩:=q2
   rw [if_pos rfl]
   refine wpAny_passesOwn hp (thn (hb pins s2 σ1 H2 _ I2 q2) fun f s3 q3=>?_)
   cases f with
   | next =>
     obtain ⟨σ3,H3,I3,n3⟩:=q3
     obtain ⟨m',hm,w3⟩:=hN σ3 H3 n3
     exact ⟨m',hm,σ3,H3,I3,w3⟩
   | cont =>
     obtain ⟨σ3,H3,I3,n3⟩:=q3
     obtain ⟨m',hm,w3⟩:=hN σ3 H3 n3
     exact ⟨m',hm,σ3,H3,I3,w3⟩
   | brk=>exact q3
   | ret v=>exact q3
 | false =>
   rw [if_neg Bool.false_ne_true]
   exact wpAny_execs_nil ⟨σ1,H2,I2,q2⟩
end
structure It where
 go:Nat->Hp->Prop
 yld:Nat->Hp->V->Hp->Prop
 stop:Nat->Hp->Prop
noncomputable def FpOk (X:Cx) (pins:List (Addr × Obj)) (H:Hp) (b:Addr):Prop :=
 H b=none/\b ≠ X.env.locals/\b ∉ X.fs/\(b ∈ X.ex\/X.s₀.heap.objs.size<=b)/\(∀ x c,X.env.cells.lookup x=some c->c ≠ b)/\∀ p ∈ X.pn++pins,p.1 ≠ b
theorem Inv.fpOk {X:Cx} {pins:List (Addr × Obj)} {σ:St} {H H':Hp} {s:Shared} {b:Addr} (I:Inv X pins σ H s) (hb:s.heap.objs.size<=b) (hn:H' b=none):FpOk X pins H' b:=by
 refine ⟨hn,Nat.ne_of_gt (Nat.lt_of_lt_of_le I.lt hb),I.nofs hb,.inr (Nat.le_trans I.sz hb),fun x c e z=>?_,fun p hp z=>?_⟩
 ·obtain ⟨v,q⟩:=I.cell x c e
  exact absurd (Nat.lt_of_lt_of_le q.lt (by rw [z];exact hb)) (Nat.lt_irrefl _)
 ·exact absurd (Nat.lt_of_lt_of_le (Heap.lt_size (I.pin p hp).1) (by rw [z];exact hb)) (Nat.lt_irrefl _)
structure Turn (P:Program) (w:World) (K:PySem.W.Frag) (tg:Expr) (J:It) (fp:List Addr) (it:Addr) (tn:Nat->Heap->Prop):Prop where
 mem:it ∈ fp
 obj:∀ i h,tn i h->∀ b ∈ fp,∃ o,h.get? b=some o/\∀ v,o.data ≠ .cell v
 keep:∀ i h h',tn i h->(∀ b ∈ fp,∀ o,h.get? b=some o->h'.get? b=some o)->tn i h'
 item:∀ (X:Cx),X.prog=P->X.w=w->X.K=K->X.calm=true->∀ (i:Nat) (pins:List (Addr × Obj)) (s:Shared) (σ:St) (H:Hp) (E:Value->Shared->Prop),Inv X pins σ H s->(∀ b ∈ fp,FpOk X pins H b)->tn i s.heap->J.go i H ->
  wpAny (model P w) X.A (pyNext (.ref it)) (fun r s1=>∃ u,r=some u /\
   wpAny (model P w) X.A (letOwnedTupleGo tg (.ref it) u) (fun _ s2=>∃ x H',Inv X pins σ H' s2/\RelV x u/\J.yld i H x H'/\tn (i+1) s2.heap/\∀ b ∈ fp,H' b=none) E s1) E s
 done:∀ (X:Cx),X.prog=P->X.w=w->X.K=K->X.calm=true->∀ (i:Nat) (pins:List (Addr × Obj)) (s:Shared) (σ:St) (H:Hp) (E:Value->Shared->Prop),Inv X pins σ H s->(∀ b ∈ fp,FpOk X pins H b)->tn i s.heap->J.stop i H ->
  wpAny (model P w) X.A (pyNext (.ref it)) (fun r s1=>r=none/\Inv X pins σ H s1) E s
 self:∀ (A:Around) (i:Nat) (s:Shared) (Q:Value->Shared->Prop) (E:Value->Shared->Prop),tn i s.heap->Q (.ref it) s->wpAny (model P w) A (pyIter (.ref it)) Q E s
noncomputable abbrev TI:=St->Hp->(It->Hp->Prop)->Prop
noncomputable def PIE (X:Cx) (pins:List (Addr × Obj)) (σ:St) (tg:Expr) (R:It->Hp->Prop) (itv:Value) (s2:Shared):Prop :=
 ∃ (it:Addr) (fp:List Addr) (tn:Nat->Heap->Prop) (J:It) (H':Hp),itv = .ref it/\Inv X pins σ H' s2/\Turn X.prog X.w X.K tg J fp it tn/\tn 0 s2.heap/\(∀ b ∈ fp,FpOk X pins H' b)/\R J H'
noncomputable def PI (X:Cx) (tg iter:Expr) (wi:TI):Prop :=
 ∀ (pins:List (Addr × Obj)) (s:Shared) (σ:St) (H:Hp) (R:It->Hp->Prop),Inv X pins σ H s->wi σ H R ->
   wpAny (model X.prog X.w) X.A (eval iter X.env) (fun v s1=>wpAny (model X.prog X.w) X.A (pyIter v) (PIE X pins σ tg R) X.xe s1) X.xe s
theorem zlk {M:Model} {A:Around} {E:Value->Shared->Prop} {s:Shared} {tg:Expr} {it:Addr} {u:Value} {o:Obj} {n:String} {vs:Array Value} {Q:Unit->Shared->Prop} (ho:s.heap.get? it=some o) (hc:o.cls = .type n) (hd:o.data = .fields vs)
 (hn:["enumerate", "zip", "dict_itemiterator", "dict_reverseitemiterator", "odict_iterator", "itertools.zip_longest", "itertools.pairwise"].contains n=false) (hQ:Q () s):wpAny M A (letOwnedTupleGo tg (.ref it) u) Q E s:=by
 unfold letOwnedTupleGo
 cases tg <;> first
  | exact wpAny_pure hQ
  | (cases u <;> first
   | exact wpAny_pure hQ
   | (refine wpAny_bind (wpAny_load ho ?_)
      rw [hc,hd]
      show wpAny M A (if (["enumerate", "zip", "dict_itemiterator", "dict_reverseitemiterator", "odict_iterator", "itertools.zip_longest", "itertools.pairwise"].contains n && vs[0]? == some (rawInt _))=true then _ else _) Q E s
      rw [if_neg (by intro h;rw [hn,Bool.false_and] at h;cases h)]
      exact wpAny_pure hQ))
noncomputable def Itl (K:PySem.W.Frag) (a:Addr):It :=
 ⟨fun i H=>∃ xs x,SqL K H a xs/\xs[i]? = some x,fun i H x H'=>H'=H/\∀ xs,SqL K H a xs->xs[i]? = some x,fun i H=>∃ xs,SqL K H a xs/\xs.length<=i⟩
noncomputable def Itt (K:PySem.W.Frag) (a:Addr):It :=
 ⟨fun i H=>∃ xs x,SqT K H a xs/\xs[i]? = some x,fun i H x H'=>H'=H/\∀ xs,SqT K H a xs->xs[i]? = some x,fun i H=>∃ xs,SqT K H a xs/\xs.length<=i⟩
noncomputable def Itr (lo:Int) (n:Nat):It:=⟨fun i _=>i<n,fun i H x H'=>H'=H/\x = .int (lo+i),fun i _=>n<=i⟩
theorem zsl {P:Program} {w:World} {K:PySem.W.Frag} {tg:Expr} (a it:Addr):Turn P w K tg (Itl K a) [it] it (fun i h=>h.IsListIter it a i) where
 mem:=by simp
 obj:=fun i h st b hb=>by
  have e:b=it:=by simpa using hb
  subst e
  obtain ⟨o,e,c,d⟩:=st
  exact ⟨o,e,fun v z=>by rw [d] at z;cases z⟩
 keep:=fun i h h' st k=>st.at fun o e=>k it (by simp) o e
 item:=by
  intro X hP hw hK hc i pins s σ H E I hf st hg
  subst hP hw hK
  obtain ⟨xs,x,hq,hx⟩:=hg
  obtain ⟨its,rv,p,hz⟩:=I.list hq
  obtain ⟨u,hu,ru⟩:=rv.get hx
  obtain ⟨f0,f1,f2,f3,f4,f5⟩:=hf it (by simp)
  refine wpAny_pyNext_list_item st p.isList (x:=u) (by simpa using hu) fun h' st' sb=>?_
  have I1:Inv X pins σ H { s with heap:=h' }:=I.turned (t':=s.toks) (fun b o hb e=>(sb.2 b hb).trans e) f0 f1 f3 f4 f5
  obtain ⟨o,e,c,d⟩:=id st'
  exact ⟨u,rfl,zlk (s:={ s with heap:=h' }) e c d (by decide) ⟨x,H,I1,ru,⟨rfl,fun ys hy=>by rw [I.list_inj hy hq];exact hx⟩,st',fun b hb=>(hf b hb).1⟩⟩
 done:=by
  intro X hP hw hK hc i pins s σ H E I hf st hg
  subst hP hw hK
  obtain ⟨xs,hq,hx⟩:=hg
  obtain ⟨its,rv,p,hz⟩:=I.list hq
  obtain ⟨f0,f1,f2,f3,f4,f5⟩:=hf it (by simp)
  have hl:=rv.length
  exact wpAny_pyNext_list_end (I.ok.hd hc) st p.isList (by simp;lia) fun h' eb=>⟨rfl,I.turned (t':=s.toks) (fun b o hb e=>eb b o hb e) f0 f1 f3 f4 f5⟩
 self:=fun _ _ _ _ _ st h=>wpAny_pyIter_listiter st h
theorem zp0 {P:Program} {w:World} {K:PySem.W.Frag} {tg:Expr} (a it:Addr):Turn P w K tg (Itt K a) [it] it (fun i h=>h.IsTupleIter it a i) where
 mem:=by simp
 obj:=fun i h st b hb=>by
  have e:b=it:=by simpa using hb
  subst e
  obtain ⟨o,e,c,d⟩:=st
  exact ⟨o,e,fun v z=>by rw [d] at z;cases z⟩
 keep:=fun i h h' st k=>st.at fun o e=>k it (by simp) o e
 item:=by
  intro X hP hw hK hc i pins s σ H E I hf st hg
  subst hP hw hK
  obtain ⟨xs,x,hq,hx⟩:=hg
  obtain ⟨its,rv,p,hz⟩:=I.tuple hq
  obtain ⟨u,hu,ru⟩:=rv.get hx
  obtain ⟨f0,f1,f2,f3,f4,f5⟩:=hf it (by simp)
  refine wpAny_pyNext_tuple_item st (show s.heap.IsTuple a its.toArray from p) (x:=u) (by simpa using hu) fun h' st' sb=>?_
  have I1:Inv X pins σ H { s with heap:=h' }:=I.turned (t':=s.toks) (fun b o hb e=>(sb.2 b hb).trans e) f0 f1 f3 f4 f5
  obtain ⟨o,e,c,d⟩:=id st'
  exact ⟨u,rfl,zlk (s:={ s with heap:=h' }) e c d (by decide) ⟨x,H,I1,ru,⟨rfl,fun ys hy=>by rw [I.tuple_inj hy hq];exact hx⟩,st',fun b hb=>(hf b hb).1⟩⟩
 done:=by
  intro X hP hw hK hc i pins s σ H E I hf st hg
  subst hP hw hK
  obtain ⟨xs,hq,hx⟩:=hg
  obtain ⟨its,rv,p,hz⟩:=I.tuple hq
  obtain ⟨f0,f1,f2,f3,f4,f5⟩:=hf it (by simp)
  have hl:=rv.length
  exact wpAny_pyNext_tuple_end (I.ok.hd hc) st (show s.heap.IsTuple a its.toArray from p) (by simp;lia) fun h' eb=>⟨rfl,I.turned (t':=s.toks) (fun b o hb e=>eb b o hb e) f0 f1 f3 f4 f5⟩
 self:=fun _ _ _ _ _ st h=>wpAny_pyIter_tupleiter st h
theorem zq7 {P:Program} {w:World} {K:PySem.W.Frag} {tg:Expr} (it:Addr) (lo:Int) (n:Nat):Turn P w K tg (Itr lo n) [it] it (fun i h=>IsRangeIter h it (lo+(i:Nat) * 1) ((n:Int) - (i:Nat)) 1) where
 mem:=by simp
 obj:=fun i h st b hb=>by
  have e:b=it:=by simpa using hb
  subst e
  exact ⟨_,st,fun v z=>by
   have z':Data.fields _=Data.cell v:=z
   cases z'⟩
 keep:=fun i h h' st k=>k it (by simp) _ st
 item:=by
  intro X hP hw hK hc i pins s σ H E I hf st hg
  subst hP hw hK
  obtain ⟨f0,f1,f2,f3,f4,f5⟩:=hf it (by simp)
  have W:=Walks.range (prog:=X.prog) (w:=X.w) (I.ok.hd hc) it lo 1 n
  refine W.item i s _ _ hg st fun v h' tk hv st' kk=>?_
  obtain ⟨t,rfl⟩:=hv
  have I1:Inv X pins σ H { s with heap:=h',toks:=tk }:=I.turned (fun b o hb e=>kk b o (by simpa using hb) e) f0 f1 f3 f4 f5
  refine ⟨_,rfl,zlk (s:={ s with heap:=h',toks:=tk }) (n := "range_iterator") st' rfl rfl (by decide) ⟨.int (lo+i),H,I1,⟨t,?_⟩,⟨rfl,rfl⟩,st',fun b hb=>(hf b hb).1⟩⟩
  rw [Int.mul_one]
 done:=by
  intro X hP hw hK hc i pins s σ H E I hf st hg
  subst hP hw hK
  obtain ⟨f0,f1,f2,f3,f4,f5⟩:=hf it (by simp)
  exact wpAny_pyNext_range_end (I.ok.hd hc) st (by have:n<=i:=hg;lia) fun h' eb=>⟨rfl,I.turned (t':=s.toks) (fun b o hb e=>eb b o hb e) f0 f1 f3 f4 f5⟩
 self:=fun _ _ _ _ _ st h=>wpAny_pyIter_rangeiter st h
end L2
namespace L2
open PySem PySem.Spec PyProof.Rows
section
variable {X : Cx} {tg : Expr}
noncomputable def zei (K:PySem.W.Frag) (tl:TE):TI:=fun σ H R=>tl σ H fun x H1=>∃ a,x = .ref a/\(∃ xs,SqL K H1 a xs)/\R (Itl K a) H1
noncomputable def iTup (K:PySem.W.Frag) (tl:TE):TI:=fun σ H R=>tl σ H fun x H1=>∃ a,x = .ref a/\(∃ xs,SqT K H1 a xs)/\R (Itt K a) H1
theorem zg6 {l:Expr} {tl:TE} (hl:PE X l tl):PI X tg l (zei X.K tl):=by
 intro pins s σ H R I h
 refine thn (hl pins s σ H _ I h) fun v s1 ⟨x,H1,I1,r1,q1⟩=>?_
 obtain ⟨a,e,⟨xs,hq⟩,q⟩:=q1
 subst e
 cases r1
 obtain ⟨its,rv,p,hz⟩:=I1.list hq
 refine wpAny_pyIter_list p.isList ?_
 refine ⟨s1.heap.objs.size,[s1.heap.objs.size],_,_,H1,rfl,I1.kept (t':=s1.toks) fun b o e=>Heap.get?_push_of_some _ e,zsl a _,⟨_,Heap.get?_push_size _ rfl,rfl,rfl⟩,fun b hb=>?_,q⟩
 have e:b=s1.heap.objs.size:=by simpa using hb
 subst e
 exact I1.fpOk (Nat.le_refl _) (I1.hok.fresh (Nat.le_refl _))
theorem z2h {l:Expr} {tl:TE} (hl:PE X l tl):PI X tg l (iTup X.K tl):=by
 intro pins s σ H R I h
 refine thn (hl pins s σ H _ I h) fun v s1 ⟨x,H1,I1,r1,q1⟩=>?_
 obtain ⟨a,e,⟨xs,hq⟩,q⟩:=q1
 subst e
 cases r1
 obtain ⟨its,rv,p,hz⟩:=I1.tuple hq
 refine wpAny_pyIter_tuple (show s1.heap.IsTuple a its.toArray from p) ?_
 refine ⟨s1.heap.objs.size,[s1.heap.objs.size],_,_,H1,rfl,I1.kept (t':=s1.toks) fun b o e=>Heap.get?_push_of_some _ e,zp0 a _,⟨_,Heap.get?_push_size _ rfl,rfl,rfl⟩,fun b hb=>?_,q⟩
 have e:b=s1.heap.objs.size:=by simpa using hb
 subst e
 exact I1.fpOk (Nat.le_refl _) (I1.hok.fresh (Nat.le_refl _))
theorem zmx {pins:List (Addr × Obj)} {σ:St} {H:Hp} {s:Shared} {R:It->Hp->Prop} {E:Value->Shared->Prop} {lo hi:Int} {t u v:Tok} {tk:Nat} (I:Inv X pins σ H s) (h1:-(2 ^ 62)<=lo) (h2:lo<2 ^ 62) (h3:-(2 ^ 62)<=hi) (h4:hi<2 ^ 62)
 (q:R (Itr lo (hi - lo).toNat) H):wpAny (model X.prog X.w) X.A (pyIter (.ref s.heap.objs.size)) (PIE X pins σ tg R) E { s with heap:=s.heap.push { cls := .type "range", data := .fields #[.int lo t,.int hi u,.int 1 v] },toks:=tk }:=by
 refine wpAny_pyIter_range (IsRange.new ..) (small_one h1 h2 h3 h4) ?_
 have I1:Inv X pins σ H { s with heap:=s.heap.push { cls := .type "range", data := .fields #[.int lo t,.int hi u,.int 1 v] },toks:=tk }:=I.kept fun b o e=>Heap.get?_push_of_some _ e
 refine ⟨(s.heap.push { cls := .type "range", data := .fields #[.int lo t,.int hi u,.int 1 v] }).objs.size,[(s.heap.push { cls := .type "range", data := .fields #[.int lo t,.int hi u,.int 1 v] }).objs.size],_,_,H,rfl,
  I1.kept (t':=tk) fun b o e=>Heap.get?_push_of_some _ e,zq7 _ lo (hi - lo).toNat,?_,fun b hb=>?_,q⟩
 ·have e1:lo+((0:Nat):Int) * 1=lo:=by simp
  have e2:(((hi - lo).toNat:Nat):Int) - ((0:Nat):Int)=Builtin.Range.rangeSize lo hi 1:=by rw [rangeSize_one];split <;> lia
  show IsRangeIter _ _ (lo+((0:Nat):Int) * 1) ((((hi - lo).toNat:Nat):Int) - ((0:Nat):Int)) 1
  rw [e1,e2]
  exact Heap.get?_push_size _ rfl
 ·have e:b=(s.heap.push { cls := .type "range", data := .fields #[.int lo t,.int hi u,.int 1 v] }).objs.size:=by simpa using hb
  subst e
  exact I1.fpOk (Nat.le_refl _) (I1.hok.fresh (Nat.le_refl _))
noncomputable def zpw (ta:TA):TI:=fun σ H R=>ta σ H fun vs H1=>∃ j:Int,vs = [.int j]/\-(2 ^ 62)<=j/\j<2 ^ 62/\R (Itr 0 j.toNat) H1
noncomputable def zwp (ta:TA):TI:=fun σ H R=>ta σ H fun vs H1=>∃ i j:Int,vs = [.int i,.int j]/\(-(2 ^ 62)<=i/\i<2 ^ 62/\-(2 ^ 62)<=j/\j<2 ^ 62)/\R (Itr i (j - i).toNat) H1
theorem zkr {a:Expr} {ta:TA} {p pos:Pos} (hg:Gl X "range") (hm:X.mg "range" = none) (ha:PA X [a] ta) (hs:starEach [a] X.env = [(false,eval a X.env)]:=by rfl):PI X tg (.Call (.Name "range" p) [a] [] pos) (zpw ta):=by
 intro pins s σ H R I h
 refine Call_ (zc0 I hg hm boot_range (PyProof.Rows.callWith_type1 (thn (ha pos pins s σ H _ I h) fun us s1 ⟨vs,H1,I1,r1,q1⟩=>?_) hs rfl))
 obtain ⟨j,e,q1,q2,q⟩:=q1
 subst e
 cases r1 with
 | cons r rr =>
   cases rr
   obtain ⟨t,rfl⟩:=r
   exact call_range_1 (zmx I1 (by lia) (by lia) q1 q2 (by simpa using q))
theorem zs9 {a b:Expr} {ta:TA} {p pos:Pos} (hg:Gl X "range") (hm:X.mg "range" = none) (ha:PA X [a,b] ta) (hs:starEach [a,b] X.env = [(false,eval a X.env),(false,eval b X.env)]:=by rfl) (hs2:starEach [b] X.env = [(false,eval b X.env)]:=by rfl) :
 PI X tg (.Call (.Name "range" p) [a,b] [] pos) (zwp ta):=by
 intro pins s σ H R I h
 refine Call_ (zc0 I hg hm boot_range (PyProof.Rows.callWith_type1 (thn (ha pos pins s σ H _ I h) fun us s1 ⟨vs,H1,I1,r1,q1⟩=>?_) (by rw [hs,hs2]) (by rw [hs2];rfl)))
 obtain ⟨i,j,e,⟨q1,q2,q3,q4⟩,q⟩:=q1
 subst e
 cases r1 with
 | cons r rr =>
   cases rr with
   | cons r' rr =>
     cases rr
     obtain ⟨t,rfl⟩:=r
     obtain ⟨t',rfl⟩:=r'
     exact call_range_2 (zmx I1 q1 q2 q3 q4 q)
noncomputable def tFor (wi:TI) (g:TG) (tb:TS):TS:=fun D σ H=>wi σ H fun J H1=>∃ W:Nat->Nat->St->Hp->Prop,(∃ m,W 0 m σ H1)/\∀ i m σ H,W i m σ H ->
 (J.stop i H/\D.nx σ H)\/(J.go i H/\∃ N:St->Hp->Prop,(∀ σ' H',N σ' H'->∃ m',m'<m/\W (i+1) m' σ' H')/\∀ x H',J.yld i H x H'->g x σ H' fun σ2 H2=>tb { D with nx:=N,ct:=N,bk:=D.nx } σ2 H2)
noncomputable def zgb (fp:List Addr) (h:Heap):List (Addr × Obj):=fp.filterMap fun b=>(h.get? b).map fun o=>(b,o)
theorem zdx {fp:List Addr} {h:Heap} {b:Addr} {o:Obj} (hb:b ∈ fp) (e:h.get? b=some o):(b,o) ∈ zgb fp h:=List.mem_filterMap.mpr ⟨b,hb,by rw [e];rfl⟩
theorem zr4 {fp:List Addr} {h:Heap} {p:Addr × Obj} (hp:p ∈ zgb fp h):p.1 ∈ fp/\h.get? p.1=some p.2:=by
 obtain ⟨b,hb,e⟩:=List.mem_filterMap.mp hp
 cases q:h.get? b with
 | none=>rw [q] at e;cases e
 | some o =>
   rw [q] at e
   have e':(b,o)=p:=Option.some.inj e
   subst e'
   exact ⟨hb,q⟩
theorem Inv.pinned {pins:List (Addr × Obj)} {σ:St} {H:Hp} {s:Shared} {fp:List Addr} (I:Inv X pins σ H s) (hf:∀ b ∈ fp,FpOk X pins H b) (ho:∀ b ∈ fp,∃ o,s.heap.get? b=some o/\∀ v,o.data ≠ .cell v):Inv X (pins++zgb fp s.heap) σ H s :=
 I.pins_of fun p hp=>(List.mem_append.mp hp).elim (fun z=>I.pin p (List.mem_append_right _ z)) fun z=>by
  obtain ⟨hb,e⟩:=zr4 z
  obtain ⟨f0,f1,f2,_⟩:=hf p.1 hb
  obtain ⟨o,e',d⟩:=ho p.1 hb
  rw [e] at e';cases e'
  exact ⟨e,f0,f1,f2,d⟩
theorem Inv.unpinned {pins pl:List (Addr × Obj)} {σ:St} {H:Hp} {s:Shared} (I:Inv X (pins++pl) σ H s):Inv X pins σ H s:=I.pins_of fun p hp=>I.pin p (List.mem_append_right _ (List.mem_append_left _ hp))
theorem zls {iter:Expr} {body:List Stmt} {wi:TI} {g:TG} {tb:TS} {pos:Pos} (hp:PassesOwn (model X.prog X.w) X.A X.env X.xe) (hc:X.calm=true) (hi:PI X tg iter wi) (hg:PG X tg g) (hb:PSs X body tb)
 (hs:∀ x,foldedSetIterable iter X.env x=pure x:=by intro _;rfl):PS X (.For tg iter body [] pos) (tFor wi g tb):=by
 intro pins s σ H D I h
 refine wpAny_For (thn (hi pins s σ H _ I h) fun v s1 h1=>thn h1 fun itv s2 h2=>?_) hs
 obtain ⟨it,fp,tn,J,H2,e,I2,T,st2,f2,W,⟨m0,w0⟩,turn⟩:=h2
 subst e
 -- what stays true of the iterator's objects through the loop
 have stat:∀ {H':Hp},(∀ b ∈ fp,H' b=none)->∀ b ∈ fp,FpOk X pins H' b:=fun hn b hb=>⟨hn b hb,(f2 b hb).2⟩
 refine codeAny_forLoop_any (fun n s'=>∃ i σ' H',Inv X pins σ' H' s'/\tn i s'.heap/\(∀ b ∈ fp,H' b=none)/\W i n σ' H') ?_ m0 ⟨0,σ,H2,I2,st2,fun b hb=>(f2 b hb).1,w0⟩
 rintro n s3 ⟨i,σ3,H3,I3,st3,fr3,w3⟩
 rcases turn i n σ3 H3 w3 with ⟨stop,qn⟩ | ⟨go,N,hN,step⟩
 ·refine wpAny_passesOwn hp (thn (T.done X rfl rfl rfl hc i pins s3 σ3 H3 X.xe I3 (stat fr3) st3 stop) fun r s4 ⟨hr,I4⟩=>?_)
  subst hr
  exact wpAny_execs_nil ⟨σ3,H3,I4,qn⟩
 ·refine wpAny_passesOwn hp (thn (T.item X rfl rfl rfl hc i pins s3 σ3 H3 X.xe I3 (stat fr3) st3 go) fun r s4 ⟨u,hr,h4⟩=>?_)
  subst hr
  refine wpAny_passesOwn hp (thn h4 fun _ s5 ⟨x,H5,I5,r5,y5,st5,fr5⟩=>?_)
  have I5':=I5.pinned (stat fr5) (T.obj _ _ st5)
  refine wpAny_passesOwn hp (thn (hg _ s5 σ3 H5 x u _ I5' r5 (step x H5 y5)) fun _ s6 ⟨σ6,H6,I6,q6⟩=>?_)
  refine wpAny_passesOwn hp (thn (hb _ s6 σ6 H6 _ I6 q6) fun f s7 q7=>?_)
  have again:∀ {σ7:St} {H7:Hp},Inv X (pins++zgb fp s5.heap) σ7 H7 s7->N σ7 H7->∃ m,m<n/\∃ i σ' H',Inv X pins σ' H' s7/\tn i s7.heap/\(∀ b ∈ fp,H' b=none)/\W i m σ' H':=fun {σ7 H7} I7 n7=>by
   obtain ⟨m',hm,w7⟩:=hN σ7 H7 n7
   refine ⟨m',hm,i+1,σ7,H7,I7.unpinned,T.keep _ _ _ st5 fun b hb o e=>(I7.pin (b,o) (List.mem_append_right _ (List.mem_append_right _ (zdx hb e)))).1,fun b hb=>?_,w7⟩
   obtain ⟨o,e,d⟩:=T.obj _ _ st5 b hb
   exact (I7.pin (b,o) (List.mem_append_right _ (List.mem_append_right _ (zdx hb e)))).2.1
  cases f with
  | next=>obtain ⟨σ7,H7,I7,n7⟩:=q7;exact again I7 n7
  | cont=>obtain ⟨σ7,H7,I7,n7⟩:=q7;exact again I7 n7
  | brk=>obtain ⟨σ7,H7,I7,q7⟩:=q7;exact ⟨σ7,H7,I7.unpinned,q7⟩
  | ret v=>obtain ⟨x7,σ7,H7,I7,r7,q7⟩:=q7;exact ⟨x7,σ7,H7,I7.unpinned,r7,q7⟩
end
theorem zud {K:PySem.W.Frag} {a:Addr} {xs:List V} {g:TG} {tb:TS} {D:Ends} {σ:St} {H:Hp} (Pv:Nat->St->Hp->Prop) (h0:Pv 0 σ H) (hl:∀ i σ H,i<=xs.length->Pv i σ H->SqL K H a xs)
 (hs:∀ i x σ H,xs[i]? = some x->Pv i σ H->g x σ H fun σ2 H2=>tb { D with nx:=Pv (i+1),ct:=Pv (i+1),bk:=D.nx } σ2 H2) (hd:∀ σ H,Pv xs.length σ H->D.nx σ H) :
 ∃ W:Nat->Nat->St->Hp->Prop,(∃ m,W 0 m σ H)/\∀ i m σ H,W i m σ H ->
   ((Itl K a).stop i H/\D.nx σ H)\/((Itl K a).go i H/\∃ N:St->Hp->Prop,(∀ σ' H',N σ' H'->∃ m',m'<m/\W (i+1) m' σ' H')/\∀ x H',(Itl K a).yld i H x H'->g x σ H' fun σ2 H2=>tb { D with nx:=N,ct:=N,bk:=D.nx } σ2 H2):=by
 refine ⟨fun i m σ H=>m=xs.length - i/\i<=xs.length/\Pv i σ H,⟨xs.length,by simp,Nat.zero_le _,h0⟩,?_⟩
 rintro i m σ H ⟨rfl,hi,p⟩
 have q:=hl i σ H hi p
 by_cases hlt:i<xs.length
 ·refine .inr ⟨⟨xs,xs[i],q,by simp [hlt]⟩,Pv (i+1),fun σ' H' p'=>⟨xs.length - (i+1),by lia,rfl,hlt,p'⟩,fun x H' y=>?_⟩
  obtain ⟨e,y⟩:=y
  subst e
  exact hs i x σ _ (y xs q) p
 ·have e:i=xs.length:=by lia
  subst e
  exact .inl ⟨⟨xs,q,Nat.le_refl _⟩,hd σ H p⟩
end L2
namespace L2
open PySem PySem.Spec PyProof.Rows
noncomputable abbrev R2:=V->V->Hp->VK->Prop
noncomputable def OpR (X:Cx) (f:Value->Value->Sem Value) (r:R2):Prop :=
 ∀ (pins:List (Addr × Obj)) (s:Shared) (σ:St) (H:Hp) (x y:V) (v u:Value) (Q:VK),Inv X pins σ H s->RelV x v->RelV y u->r x y H Q ->
   wpAny (model X.prog X.w) X.A (f v u) (EP X pins σ Q) X.xe s
noncomputable def UnR (X:Cx) (f:Value->Sem Value) (r:V->Hp->VK->Prop):Prop :=
 ∀ (pins:List (Addr × Obj)) (s:Shared) (σ:St) (H:Hp) (x:V) (v:Value) (Q:VK),Inv X pins σ H s->RelV x v->r x H Q ->
   wpAny (model X.prog X.w) X.A (f v) (EP X pins σ Q) X.xe s
noncomputable def zb2 (X:Cx) (f:Value) (r:List V->Hp->VK->Prop):Prop :=
 ∀ (pins:List (Addr × Obj)) (s:Shared) (σ:St) (H:Hp) (xs:List V) (us:List Value) (Q:VK),Inv X pins σ H s->Vals xs us->r xs H Q ->
   wpAny (model X.prog X.w) X.A (call f us) (EP X pins σ Q) X.xe s
noncomputable def TruR (X:Cx) (r:V->Hp->(Bool->Hp->Prop)->Prop):Prop :=
 ∀ (pins:List (Addr × Obj)) (s:Shared) (σ:St) (H:Hp) (x:V) (v:Value) (Q:Bool->Hp->Prop),Inv X pins σ H s->RelV x v->r x H Q ->
   wpAny (model X.prog X.w) X.A (truthy v) (TP X pins σ Q) X.xe s
noncomputable def tOp (r:R2) (ta tb:TE):TE:=fun σ H Q=>ta σ H fun x H1=>tb σ H1 fun y H2=>r x y H2 Q
noncomputable def tUn (r:V->Hp->VK->Prop) (ta:TE):TE:=fun σ H Q=>ta σ H fun x H1=>r x H1 Q
noncomputable def rI (C:Int->Int->Prop) (g:Int->Int->V):R2:=fun x y H Q=>∃ i j,x = .int i/\y = .int j/\C i j/\Q (g i j) H
noncomputable def rI0 (g:Int->Int->V):R2:=fun x y H Q=>∃ i j,x = .int i/\y = .int j/\Q (g i j) H
noncomputable def rU (g:Int->V):V->Hp->VK->Prop:=fun x H Q=>∃ i,x = .int i/\Q (g i) H
section
variable {X : Cx} {a b c : Expr} {ta tb tc : TE} {pos : Pos}
theorem binT (ha:PE X a ta) (hb:PE X b tb) {pins:List (Addr × Obj)} {s:Shared} {σ:St} {H:Hp} {R:V->V->Hp->Prop} (I:Inv X pins σ H s)
 (h:ta σ H fun x H1=>tb σ H1 fun y H2=>R x y H2) {Q:Value->Shared->Prop} {f:Value->Value->Sem Value}
 (hf:∀ v u s2 x y H2,Inv X pins σ H2 s2->RelV x v->RelV y u->R x y H2->wpAny (model X.prog X.w) X.A (f v u) Q X.xe s2) :
 wpAny (model X.prog X.w) X.A (eval a X.env) (fun v s₁=>wpAny (model X.prog X.w) X.A (eval b X.env) (fun u s₂=>wpAny (model X.prog X.w) X.A (f v u) Q X.xe s₂) X.xe s₁) X.xe s:=by
 refine thn (ha pins s σ H _ I h) fun v s1 ⟨x,H1,I1,r1,q1⟩=>?_
 refine thn (hb pins s1 σ H1 _ I1 q1) fun u s2 ⟨y,H2,I2,r2,q2⟩=>?_
 exact hf v u s2 x y H2 I2 r1 r2 q2
theorem za5 {op:Operator} {r:R2} (ho:OpR X (binaryOp op) r) (ha:PE X a ta) (hb:PE X b tb):PE X (.BinOp a op b pos) (tOp r ta tb):=by
 intro pins s σ H Q I h
 exact wpAny_BinOp (binT ha hb I h fun v u s2 x y H2 I2 rx ry q=>ho pins s2 σ H2 x y v u Q I2 rx ry q)
theorem z3o {op:UnaryOp} {r:V->Hp->VK->Prop} (ho:UnR X (unaryOp op) r) (ha:PE X a ta):PE X (.UnaryOp op a pos) (tUn r ta):=by
 intro pins s σ H Q I h
 exact UnaryOp_ (thn (ha pins s σ H _ I h) fun v s1 ⟨x,H1,I1,r1,q1⟩=>ho pins s1 σ H1 x v Q I1 r1 q1)
theorem opI {f:Value->Value->Sem Value} {C:Int->Int->Prop} {g:Int->Int->Int}
 (rule:∀ (i j:Int) (t u:Tok) (s:Shared) (Q:Value->Shared->Prop) (E:Value->Shared->Prop),C i j->Q (.int (g i j) s.toks) { s with toks:=s.toks+1 }->wpAny (model X.prog X.w) X.A (f (.int i t) (.int j u)) Q E s) :
 OpR X f (rI C fun i j => .int (g i j)):=by
 intro pins s σ H x y v u Q I rx ry h
 obtain ⟨i,j,rfl,rfl,hc,q⟩:=h
 obtain ⟨t,rfl⟩:=rx
 obtain ⟨t',rfl⟩:=ry
 exact rule i j t t' s _ _ hc ⟨.int (g i j),H,I.tok _,⟨_,rfl⟩,q⟩
theorem opI0 {f:Value->Value->Sem Value} {g:Int->Int->Int}
 (rule:∀ (i j:Int) (t u:Tok) (s:Shared) (Q:Value->Shared->Prop) (E:Value->Shared->Prop),Q (.int (g i j) s.toks) { s with toks:=s.toks+1 }->wpAny (model X.prog X.w) X.A (f (.int i t) (.int j u)) Q E s) :
 OpR X f (rI0 fun i j => .int (g i j)):=by
 intro pins s σ H x y v u Q I rx ry h
 obtain ⟨i,j,rfl,rfl,q⟩:=h
 obtain ⟨t,rfl⟩:=rx
 obtain ⟨t',rfl⟩:=ry
 exact rule i j t t' s _ _ ⟨.int (g i j),H,I.tok _,⟨_,rfl⟩,q⟩
theorem opB0 {f:Value->Value->Sem Value} {g:Int->Int->Bool}
 (rule:∀ (i j:Int) (t u:Tok) (s:Shared) (Q:Value->Shared->Prop) (E:Value->Shared->Prop),Q (.bool (g i j)) s->wpAny (model X.prog X.w) X.A (f (.int i t) (.int j u)) Q E s) :
 OpR X f (rI0 fun i j => .bl (g i j)):=by
 intro pins s σ H x y v u Q I rx ry h
 obtain ⟨i,j,rfl,rfl,q⟩:=h
 obtain ⟨t,rfl⟩:=rx
 obtain ⟨t',rfl⟩:=ry
 exact rule i j t t' s _ _ ⟨.bl (g i j),H,I,rfl,q⟩
noncomputable def CDiv (i j:Int):Prop:=0<j/\j<1073741824
noncomputable def CPow (i j:Int):Prop:=0<=j/\j<=1000000/\i.natAbs<2 ^ 64
noncomputable def CMul (i j:Int):Prop:=(-(2 ^ 64)<i/\i<2 ^ 64)\/(-(2 ^ 64)<j/\j<2 ^ 64)
theorem CMul.ok {i j:Int} (h:CMul i j):IntMulOk i j:=by
 rcases h with ⟨h1,h2⟩ | ⟨h1,h2⟩
 ·exact .of_left (intBits_le_64 h1 h2)
 ·exact .of_right (intBits_le_64 h1 h2)
theorem op_add:OpR X (binaryOp .Add) (rI0 fun i j => .int (i+j)):=opI0 fun _ _ _ _ _ _ _ q=>add_int q
theorem op_mul:OpR X (binaryOp .Mult) (rI CMul fun i j => .int (i * j)):=opI fun _ _ _ _ _ _ _ hc q=>mul_int q hc.ok
theorem zpv:OpR X (binaryOp .FloorDiv) (rI CDiv fun i j => .int (i / j)):=opI fun i j _ _ _ _ _ hc q=>by
 have h1:(0:Int)<j:=hc.1
 have h2:j<1073741824:=hc.2
 exact floordiv_int (by lia) (by rw [Int.fdiv_eq_ediv_of_nonneg i (by lia)];exact q) (.inl (PyProof.noPylong_small (by lia)))
theorem zeg:OpR X (binaryOp .Mod) (rI (fun _ j=>0<j) fun i j => .int (i % j)):=opI fun i j _ _ _ _ _ hc q=>by
 have h1:(0:Int)<j:=hc
 exact mod_int' (by lia) (by rw [Int.fmod_eq_emod_of_nonneg i (by lia)];exact q)
theorem z3g:OpR X (binaryOp .Pow) (rI CPow fun i j => .int (i ^ j.toNat)):=opI fun _ _ _ _ _ _ _ hc q=>pow_int_small hc.1 hc.2.1 hc.2.2 q
theorem unI {f:Value->Sem Value} {g:Int->Int}
 (rule:∀ (i:Int) (t:Tok) (s:Shared) (Q:Value->Shared->Prop) (E:Value->Shared->Prop),Q (.int (g i) s.toks) { s with toks:=s.toks+1 }->wpAny (model X.prog X.w) X.A (f (.int i t)) Q E s) :
 UnR X f (rU fun i => .int (g i)):=by
 intro pins s σ H x v Q I rx h
 obtain ⟨i,rfl,q⟩:=h
 obtain ⟨t,rfl⟩:=rx
 exact rule i t s _ _ ⟨.int (g i),H,I.tok _,⟨_,rfl⟩,q⟩
theorem z0a:UnR X (unaryOp .USub) (rU fun i => .int (-i)):=unI fun _ _ _ _ _ q=>neg_int q
end
noncomputable def scal:V->V->Bool
 | .non,.non=>true | .non,.int _=>true | .int _,.non=>true | .non,.bl _=>true | .bl _,.non=>true | .non,.str _=>true | .str _,.non=>true
 | .int _,.int _=>true | .bl _,.bl _=>true | .str _,.str _=>true | .byt _,.byt _=>true
 | .int _,.str _=>true | .str _,.int _=>true | .bl _,.str _=>true | .str _,.bl _=>true
 | _,_=>false
noncomputable def rEq:R2:=fun x y H Q=>scal x y=true/\Q (.bl (decide (x=y))) H
theorem zx5 {i j:Int}:decide (V.int i=V.int j)=(i == j):=by
 rw [Bool.eq_iff_iff]
 simp
theorem z1b {i j:Bool}:decide (V.bl i=V.bl j)=(i == j):=by
 rw [Bool.eq_iff_iff]
 simp
theorem zyr {i j:Str}:decide (V.str i=V.str j)=(i == j):=by
 rw [Bool.eq_iff_iff]
 simp
theorem zy0 {i j:Array UInt8}:decide (V.byt i=V.byt j)=(i.toList == j.toList):=by
 rw [Bool.eq_iff_iff]
 cases i
 cases j
 simp
section
variable {X : Cx} {a b c : Expr} {ta tb tc : TE} {pos : Pos}
theorem za7 {pins:List (Addr × Obj)} {σ:St} {H:Hp} {s:Shared} {Q:VK} {k k':Bool} (I:Inv X pins σ H s) (q:Q (.bl k) H) (e:k=k'):EP X pins σ Q (.bool k') s:=by
 subst e
 exact ⟨.bl k,H,I,rfl,q⟩
theorem z4b:OpR X (compareOp .Eq) rEq:=by
 intro pins s σ H x y v u Q I rx ry h
 obtain ⟨hs,q⟩:=h
 cases x with
 | non =>
   cases rx
   cases y with
   | non=>cases ry;exact PySem.EqNone.eq_none_none (za7 I q (by simp))
   | bl j=>cases ry;exact PySem.EqNone.eq_none_bool (za7 I q (by simp))
   | int j=>obtain ⟨t',rfl⟩:=ry;exact PySem.EqNone.eq_none_int (za7 I q (by simp))
   | str j=>obtain ⟨t',rfl⟩:=ry;exact PySem.EqNone.eq_none_str (za7 I q (by simp))
   | _=>exact absurd (show false=true from hs) Bool.false_ne_true
 | bl i =>
   cases rx
   cases y with
   | non=>cases ry;exact PySem.EqNone.eq_bool_none (za7 I q (by simp))
   | bl j=>cases ry;exact eq_bool (za7 I q z1b)
   | str j=>obtain ⟨t',rfl⟩:=ry;exact PySem.EqMixed.eq_bool_str (za7 I q (by simp))
   | _=>exact absurd (show false=true from hs) Bool.false_ne_true
 | int i =>
   obtain ⟨t,rfl⟩:=rx
   cases y with
   | non=>cases ry;exact PySem.EqNone.eq_int_none (za7 I q (by simp))
   | int j=>obtain ⟨t',rfl⟩:=ry;exact eq_int (za7 I q zx5)
   | str j=>obtain ⟨t',rfl⟩:=ry;exact PySem.EqMixed.eq_int_str (za7 I q (by simp))
   | _=>exact absurd (show false=true from hs) Bool.false_ne_true
 | str i =>
   obtain ⟨t,rfl⟩:=rx
   cases y with
   | non=>cases ry;exact PySem.EqNone.eq_str_none (za7 I q (by simp))
   | bl j=>cases ry;exact PySem.EqMixed.eq_str_bool (za7 I q (by simp))
   | int j=>obtain ⟨t',rfl⟩:=ry;exact PySem.EqMixed.eq_str_int (za7 I q (by simp))
   | str j=>obtain ⟨t',rfl⟩:=ry;exact eq_str (za7 I q zyr)
   | _=>exact absurd (show false=true from hs) Bool.false_ne_true
 | byt i =>
   obtain ⟨t,rfl⟩:=rx
   cases y with
   | byt j=>obtain ⟨t',rfl⟩:=ry;exact PySem.W.eq_bytes (za7 I q zy0)
   | _=>exact absurd (show false=true from hs) Bool.false_ne_true
 | _=>cases y <;> exact absurd (show false=true from hs) Bool.false_ne_true
theorem z4d:OpR X (compareOp .Lt) (rI0 fun i j => .bl (decide (i<j))):=opB0 fun _ _ _ _ _ _ _ q=>lt_int q
theorem zqq:OpR X (compareOp .Gt) (rI0 fun i j => .bl (decide (j<i))):=opB0 fun _ _ _ _ _ _ _ q=>gt_int q
theorem z3u:OpR X (compareOp .GtE) (rI0 fun i j => .bl (decide (j<=i))):=opB0 fun _ _ _ _ _ _ _ q=>ge_int q
theorem op_in_str:OpR X (compareOp .In) (fun x y H Q=>∃ i j,x = .str i/\y = .str j/\Q (.bl (!(Builtin.Str.occurrences j i 0 j.length 1).isEmpty)) H):=by
 intro pins s σ H x y v u Q I rx ry h
 obtain ⟨i,j,rfl,rfl,q⟩:=h
 obtain ⟨t,rfl⟩:=rx
 obtain ⟨t',rfl⟩:=ry
 exact in_str (za7 I q rfl)
theorem zrs:OpR X (compareOp .Is) (fun x y H Q=>y = .non/\Q (.bl (decide (x = .non))) H):=by
 intro pins s σ H x y v u Q I rx ry h
 obtain ⟨rfl,q⟩:=h
 cases ry
 refine is_none_gen (za7 I q ?_)
 cases x <;> first
  | (cases rx;rfl)
  | (obtain ⟨t,rfl⟩:=rx;rfl)
theorem zz0:OpR X (compareOp .IsNot) (fun x y H Q=>y = .non/\Q (.bl (!decide (x = .non))) H):=by
 intro pins s σ H x y v u Q I rx ry h
 obtain ⟨rfl,q⟩:=h
 cases ry
 refine isnot_none_gen (za7 I q ?_)
 cases x <;> first
  | (cases rx;rfl)
  | (obtain ⟨t,rfl⟩:=rx;rfl)
theorem op_notin_str:OpR X (compareOp .NotIn) (fun x y H Q=>∃ i j,x = .str i/\y = .str j/\Q (.bl (!(!(Builtin.Str.occurrences j i 0 j.length 1).isEmpty))) H):=by
 intro pins s σ H x y v u Q I rx ry h
 obtain ⟨i,j,rfl,rfl,q⟩:=h
 obtain ⟨t,rfl⟩:=rx
 obtain ⟨t',rfl⟩:=ry
 exact notIn_str (za7 I q rfl)
theorem OpR.or {f:Value->Value->Sem Value} {r r':R2} (h:OpR X f r) (h':OpR X f r'):OpR X f (fun x y H Q=>r x y H Q\/r' x y H Q):=by
 intro pins s σ H x y v u Q I rx ry q
 rcases q with q | q
 ·exact h pins s σ H x y v u Q I rx ry q
 ·exact h' pins s σ H x y v u Q I rx ry q
theorem zb5 (b:Expr) {op:CmpOp} (h:op ≠ .In:=by decide) (h2:op ≠ .NotIn:=by decide):behindInMarks op b=false:=by
 have e1:(op == CmpOp.In)=false:=by cases op <;> first | rfl | exact absurd rfl h
 have e2:(op == CmpOp.NotIn)=false:=by cases op <;> first | rfl | exact absurd rfl h2
 cases b <;> simp [behindInMarks,e1,e2]
theorem zya {op:CmpOp} {r:R2} (ho:OpR X (compareOp op) r) (ha:PE X a ta) (hb:PE X b tb) (hm:behindInMarks op b=false):PE X (.Compare a [op] [b] pos) (tOp r ta tb):=by
 intro pins s σ H Q I h
 exact wpAny_Compare1 (binT ha hb I h fun v u s2 x y H2 I2 rx ry q=>ho pins s2 σ H2 x y v u Q I2 rx ry q) hm
noncomputable def zgq (t:TE):TT:=fun σ H Q=>t σ H fun x H'=>∃ k,x = .bl k/\Q k H'
theorem ze1 {op:CmpOp} {r:R2} (ho:OpR X (compareOp op) r) (ha:PE X a ta) (hb:PE X b tb) (hm:behindInMarks op b=false):PT X (.Compare a [op] [b] pos) (zgq (tOp r ta tb)):=by
 intro pins s σ H Q I h
 refine wpAny_isTrue_Compare1 (thn (ha pins s σ H _ I h) fun v s1 ⟨x,H1,I1,r1,q1⟩=>thn (hb pins s1 σ H1 _ I1 q1) fun u s2 ⟨y,H2,I2,r2,q2⟩ =>
  thn (ho pins s2 σ H2 x y v u _ I2 r1 r2 q2) fun c s3 ⟨z,H3,I3,r3,k,e,q3⟩=>?_) hm
 subst e
 cases r3
 exact wpAny_truthy_bool ⟨H3,I3,q3⟩
noncomputable def TruV (K:PySem.W.Frag) (x:V) (H:Hp) (k:Bool):Prop :=
 match x with
 | .non=>k=false
 | .bl b=>k=b
 | .int i=>k=(i != 0)
 | .str y=>y.length<=sizeLine/\k=((y.length:Int) != 0)
 | .byt y=>y.size<=sizeLine/\k=((y.size:Int) != 0)
 | .ref p=>(∃ xs,SqL K H p xs/\k = !xs.isEmpty)\/(∃ xs,SqT K H p xs/\k = !xs.isEmpty)\/∃ kvs,H p=some (.dK kvs)/\k = !kvs.isEmpty
 | _=>False
theorem zqm {κ:Type} {kvs:List (κ × V)} {vs:List (κ × Value)} (r:KV kvs vs):(!vs.isEmpty) = !kvs.isEmpty:=by
 cases r <;> rfl
theorem ziw {xs:List V} {its:List Value} (r:Vals xs its):(!its.toArray.isEmpty) = !xs.isEmpty:=by
 cases r <;> simp
theorem zev:(sizeLine:Nat)<2 ^ 63:=by rw [sizeLine_eq];decide
theorem z1t:TruR X (fun x H Q=>∃ k,TruV X.K x H k/\Q k H):=by
 intro pins s σ H x v Q I rx h
 obtain ⟨k,e,q⟩:=h
 have hl:=zev
 have hs:sizeLine=16777216:=sizeLine_eq
 cases x with
 | non =>
   cases rx
   have e':k=false:=e
   subst e'
   exact truthy_none ⟨H,I,q⟩
 | bl b =>
   cases rx
   have e':k=b:=e
   subst e'
   exact wpAny_truthy_bool ⟨H,I,q⟩
 | int i =>
   obtain ⟨t,rfl⟩:=rx
   have e':k=(i != 0):=e
   subst e'
   exact PySem.P.truthy_int ⟨H,I,q⟩
 | str y =>
   obtain ⟨t,rfl⟩:=rx
   obtain ⟨hy,e'⟩:y.length<=sizeLine/\k=((y.length:Int) != 0):=e
   subst e'
   exact PySem.P.truthy_str (by lia) ⟨H,I.tok _,q⟩
 | byt y =>
   obtain ⟨t,rfl⟩:=rx
   obtain ⟨hy,e'⟩:y.size<=sizeLine/\k=((y.size:Int) != 0):=e
   subst e'
   exact PySem.W.truthy_bytes (by lia) ⟨H,I.tok _,q⟩
 | ref p =>
   cases rx
   have e':(∃ xs,SqL X.K H p xs/\k = !xs.isEmpty)\/(∃ xs,SqT X.K H p xs/\k = !xs.isEmpty)\/∃ kvs,H p=some (.dK kvs)/\k = !kvs.isEmpty:=e
   rcases e' with ⟨xs,hx,e'⟩ | ⟨xs,hx,e'⟩ | ⟨kvs,hx,e'⟩
   ·subst e'
    obtain ⟨its,r,pl,hz⟩:=I.list hx
    have hlen:=r.length
    exact wpAny_truthy_list pl.isList (by simp only [List.size_toArray];lia) ⟨H,I.tok _,by rw [ziw r];exact q⟩
   ·subst e'
    obtain ⟨its,r,pl,hz⟩:=I.tuple hx
    have hlen:=r.length
    exact truthy_tuple pl (by simp only [List.size_toArray];lia) ⟨H,I.tok _,by rw [ziw r];exact q⟩
   ·subst e'
    obtain ⟨hz,hS,vs,r,m⟩:kvs.length<=sizeLine/\(p == sysModules)=false/\∃ vs,KV kvs vs/\s.heap.DictOf (zjv X.prog X.w) p vs:=I.hok p _ hx
    have hlen:kvs.length=vs.length:=Paired.length r
    exact wpAny_truthy_dict hS m (by lia) ⟨H,I.tok _,by rw [zqm r];exact q⟩
 | _=>exact (show False from e).elim
theorem zvw (ha:PE X a ta) (he:∀ whole,isTrue a X.env whole=(do let v <- whole;standAt a.pos;holding [v] (truthy v))) :
 PT X a (fun σ H Q=>ta σ H fun x H'=>∃ k,TruV X.K x H' k/\Q k H'):=by
 intro pins s σ H Q I h
 exact isTrue_plain (thn (ha pins s σ H _ I h) fun v s1 ⟨x,H1,I1,r1,q1⟩=>z1t pins s1 σ H1 x v Q I1 r1 q1) (he _)
theorem op_add_str:OpR X (binaryOp .Add) (fun x y H Q=>∃ i j,x = .str i/\y = .str j/\i.length+j.length<=sizeLine/\Q (.str (i++j)) H):=by
 intro pins s σ H x y v u Q I rx ry h
 obtain ⟨i,j,rfl,rfl,hz,q⟩:=h
 obtain ⟨t,rfl⟩:=rx
 obtain ⟨t',rfl⟩:=ry
 exact add_str (fun t' tk=>⟨.str (i++j),H,I.tok _,⟨_,rfl⟩,q⟩) hz
theorem zlj {x:V} {us:List Value} (r:Vals [x] us):∃ u,us = [u]/\RelV x u:=by
 cases r with
 | cons r1 r2=>cases r2;exact ⟨_,rfl,r1⟩
theorem ztq:zb2 X (.type "int") (fun xs H Q=>(∃ i,xs = [.int i]/\Q (.int i) H)\/∃ k,xs = [.bl k]/\Q (.int (if k then 1 else 0)) H):=by
 intro pins s σ H xs us Q I r h
 rcases h with ⟨i,rfl,q⟩ | ⟨k,rfl,q⟩
 ·obtain ⟨u,rfl,t,rfl⟩:=zlj r
  exact call_int_int ⟨.int i,H,I,⟨_,rfl⟩,q⟩
 ·obtain ⟨u,rfl,r1⟩:=zlj r
  cases r1
  exact call_int_bool ⟨.int (if k then 1 else 0),H,I.tok _,⟨_,rfl⟩,q⟩
noncomputable def LenV (K:PySem.W.Frag) (x:V) (H:Hp) (n:Nat):Prop :=
 match x with
 | .str y=>y.length<=sizeLine/\n=y.length
 | .byt y=>y.size<=sizeLine/\n=y.size
 | .ref p=>(∃ xs,SqL K H p xs/\n=xs.length)\/∃ xs,SqT K H p xs/\n=xs.length
 | _=>False
theorem zhk:zb2 X (.builtin "len") (fun xs H Q=>∃ x n,xs = [x]/\LenV X.K x H n/\Q (.int n) H):=by
 intro pins s σ H xs us Q I r h
 obtain ⟨x,n,rfl,e,q⟩:=h
 obtain ⟨u,rfl,rx⟩:=zlj r
 have hl:=zev
 have hs:sizeLine=16777216:=sizeLine_eq
 cases x with
 | str y =>
   obtain ⟨t,rfl⟩:=rx
   obtain ⟨hy,e'⟩:y.length<=sizeLine/\n=y.length:=e
   subst e'
   exact len_str (by lia) ⟨.int _,H,I.tok _,⟨_,rfl⟩,q⟩
 | byt y =>
   obtain ⟨t,rfl⟩:=rx
   obtain ⟨hy,e'⟩:y.size<=sizeLine/\n=y.size:=e
   subst e'
   exact PySem.W.len_bytes (by lia) ⟨.int _,H,I.tok _,⟨_,rfl⟩,q⟩
 | ref p =>
   cases rx
   have e':(∃ xs,SqL X.K H p xs/\n=xs.length)\/∃ xs,SqT X.K H p xs/\n=xs.length:=e
   rcases e' with ⟨xs,hx,e'⟩ | ⟨xs,hx,e'⟩
   ·subst e'
    obtain ⟨its,r',pl,hz⟩:=I.list hx
    have hlen:=r'.length
    exact Calls.call_len_list pl.isList (by simp only [List.size_toArray];lia) ⟨.int xs.length,H,I.tok _,⟨_,by simp only [List.size_toArray];rw [hlen]⟩,q⟩
   ·subst e'
    obtain ⟨its,r',pl,hz⟩:=I.tuple hx
    have hlen:=r'.length
    exact len_tuple pl (by simp only [List.size_toArray];lia) ⟨.int xs.length,H,I.tok _,⟨_,by simp only [List.size_toArray];rw [hlen]⟩,q⟩
 | _=>exact (show False from e).elim
end
end L2
namespace L2
open PySem PySem.Spec PyProof.Rows
structure Room (k:Nat) (A:Around):Prop where
 hd:A.handled=none
 dp:A.depth+3 * k+5<recursionLimit
 un:A.units+16 * k+200<cLine
 gd:A.guards=some []
theorem Room.mono {j k:Nat} {A:Around} (r:Room k A) (h:j<=k):Room j A:=⟨r.hd,by have:=r.dp;lia,by have:=r.un;lia,r.gd⟩
theorem Room.deeper {k:Nat} {A:Around} (r:Room (k+1) A) (env:Env):Room k (A.deeper env) :=
 ⟨r.hd,by have:=r.dp;show A.depth+1+3 * k+5<_;lia,by have:=r.un;show A.units+3+16 * k+200<_;lia,r.gd⟩
theorem Room.depth {k:Nat} {A:Around} (r:Room k A):A.depth<recursionLimit:=by have:=r.dp;lia
theorem Room.units {k:Nat} {A:Around} (r:Room k A):A.units+64<cLine:=by have:=r.un;lia
noncomputable def tNil:TA:=fun _ H Q=>Q [] H
noncomputable def zav (ta:TE) (tr:TA):TA:=fun σ H Q=>ta σ H fun x H1=>tr σ H1 fun xs H2=>Q (x::xs) H2
section
variable {X : Cx} {e : Expr} {es : List Expr} {te : TE} {t : TA} {pos : Pos}
theorem za6:PA X [] tNil:=fun _ _ _ _ H Q I h=>Calls.spliced_nil ⟨[],H,I,.nil,h⟩
theorem zas (ha:PE X e te) (hr:PA X es t) (hs:starEach (e::es) X.env=(false,eval e X.env)::starEach es X.env:=by rfl):PA X (e::es) (zav te t):=by
 intro pos pins s σ H Q I h
 rw [hs]
 show wpAny _ _ (spliced ((false,eval e X.env)::backTo pos (starEach es X.env))) _ _ s
 refine Calls.spliced_cons (thn (ha pins s σ H _ I h) fun u s1 ⟨x,H1,I1,r1,q1⟩=>?_)
 exact thn (hr pos pins s1 σ H1 _ I1 q1) fun us s2 ⟨xs,H2,I2,r2,q2⟩=>⟨x::xs,H2,I2,.cons r1 r2,q2⟩
noncomputable def tTup (t:TA):TE:=fun σ H Q=>t σ H fun xs H1=>xs.length<=sizeLine/\∀ p,H1 p=none->Q (.ref p) (upd H1 p (.tup xs))
noncomputable def tLst (t:TA):TE:=fun σ H Q=>t σ H fun xs H1=>xs.length<=sizeLine/\∀ p,H1 p=none->Q (.ref p) (upd H1 p (.lst xs))
theorem z0l {x1} (h:PA X es t):PE X (.Tuple es x1 pos) (tTup t):=by
 intro pins s σ H Q I hq
 refine wpAny_Tuple_spliced (thn (h pos pins s σ H _ I hq) fun us s1 ⟨xs,H1,I1,r,z,q⟩=>⟨by rw [<- r.length];exact z,?_⟩)
 have hf:H1 s1.heap.objs.size=none:=I1.hok.fresh (Nat.le_refl _)
 refine ⟨.ref s1.heap.objs.size,upd H1 s1.heap.objs.size (.tup xs),I1.laid (t':=s1.toks) (fun b u e=>Heap.get?_push_of_some _ e) (Nat.le_refl _) ?_,rfl,q _ hf⟩
 exact ⟨z,us,r,⟨_,Heap.get?_push_size _ rfl,rfl,_,rfl⟩⟩
theorem zl3 (h:PA X es t):PE X (.List es pos) (tLst t):=by
 intro pins s σ H Q I hq
 refine wpAny_List_spliced (thn (h pos pins s σ H _ I hq) fun us s1 ⟨xs,H1,I1,r,z,q⟩=>⟨by rw [<- r.length];exact z,?_⟩)
 have hf:H1 s1.heap.objs.size=none:=I1.hok.fresh (Nat.le_refl _)
 refine ⟨.ref s1.heap.objs.size,upd H1 s1.heap.objs.size (.lst xs),I1.laid (t':=s1.toks) (fun b u e=>Heap.get?_push_of_some _ e) (Nat.le_refl _) ?_,rfl,q _ hf⟩
 exact ⟨z,us,0,r,Heap.get?_push_size _ rfl⟩
end
noncomputable abbrev Sp:=List V->Hp->VK->XK->Prop
noncomputable abbrev CXT:=List Env->Hp->Shared->XK->Value->Shared->Prop
structure Env0 (P:Program) (w:World) (K:PySem.W.Frag) (mg:Str->Option Value) (base:Heap) (A:Around) (outer:List Env) (s:Shared) (H:Hp):Prop where
 frames:A.frames=some outer
 mod:Mod K mg base
 bs:∀ b o,base.get? b=some o->s.heap.get? b=some o/\H b=none
 bsz:base.objs.size<=s.heap.objs.size
 funs:s.heap.FunFrames base outer
 frf:∀ b ∈ frs outer,H b=none
 hok:HOk P w H s.heap
 bare:AllBare s.gens
noncomputable def CE (outer:List Env) (P:Program) (w:World) (H:Hp) (s:Shared) (Q:VK) (u:Value) (s':Shared):Prop :=
 ∃ v H',s'.os=s.os/\AllBare s'.gens/\Un (frs outer) [] H H' s.heap s'.heap/\HOk P w H' s'.heap/\RelV v u/\Q v H'
noncomputable def CR (CX:CXT) (outer:List Env) (P:Program) (w:World) (H:Hp) (s:Shared) (Q:VK) (E:XK) (r:Result) (s':Shared):Prop :=
 match r with
 | .ok (.ret u)=>CE outer P w H s Q u s'
 | .ok _=>False
 | .error e=>CX outer H s E e s'
structure FnOk (P:Program) (w:World) (K:PySem.W.Frag) (mg:Str->Option Value) (base:Heap) (CX:CXT) (k:Nat) (f:Addr) (fd:FuncData) (ps:List Str) (sp:Sp):Prop where
 len:∀ vs H Q E,sp vs H Q E->vs.length=ps.length
 run:∀ (A:Around) (outer:List Env) (s:Shared) (H:Hp) (args:Args) (us:List Value) (vs:List V) (Q:VK) (E:XK),Room k A->Env0 P w K mg base A outer s H->BindsTo s fd args (ps.zip us)->Vals vs us->sp vs H Q E ->
  codeAny (model P w) A (.call (.ref f) args) (CR CX outer P w H s Q E) s
theorem FnOk.mono {P:Program} {w:World} {K:PySem.W.Frag} {mg:Str->Option Value} {base:Heap} {CX:CXT} {j k:Nat} {f:Addr} {fd:FuncData} {ps:List Str} {sp:Sp} (F:FnOk P w K mg base CX j f fd ps sp) (h:j<=k) :
 FnOk P w K mg base CX k f fd ps sp:=⟨F.len,fun A outer s H args us vs Q E hr=>F.run A outer s H args us vs Q E (hr.mono h)⟩
section
variable {X : Cx} {pins : List (Addr × Obj)} {σ : St} {H : Hp} {s s' : Shared}
theorem Inv.env0 (I:Inv X pins σ H s):Env0 X.prog X.w X.K X.mg X.base X.A X.stack s H :=
 ⟨I.ok.frames,I.ok.mod,I.bs,Nat.le_trans I.ok.bsz I.sz,I.stack,I.stkFree,I.hok,I.bare⟩
theorem Inv.after {Q:VK} {u:Value} (I:Inv X pins σ H s) (h:CE X.stack X.prog X.w H s Q u s'):EP X pins σ Q u s':=by
 obtain ⟨v,H',os,bare,un,hok,r,q⟩:=h
 obtain ⟨hh,g,d,t,os'⟩:=s'
 obtain rfl:os'=s.os:=os
 exact ⟨v,H',I.call (h':=hh) (g':=g) (d':=d) (t':=t) (ch := []) un hok bare (fun b z=>absurd z (by simp)),r,q⟩
end
noncomputable def zeo (sp:Sp) (dvs:List V) (E:XK) (t:TA):TE:=fun σ H Q=>t σ H fun vs H1=>sp (vs++dvs) H1 Q E
noncomputable def Binds (K:PySem.W.Frag) (fd:FuncData) (ps:List Str) (ds:List Value):Prop :=
 ∀ (s:Shared) (us:List Value),K.In s.heap->(us++ds).length=ps.length->BindsTo s fd ⟨us,[]⟩ (ps.zip (us++ds))
theorem Binds.all {K:PySem.W.Frag} {fd:FuncData} {ps:List Str} (h:∀ us:List Value,us.length=ps.length->bindArgs fd ⟨us,[]⟩=pure (ps.zip us)):Binds K fd ps []:=fun s us _ hl=>by
 rw [List.append_nil] at hl ⊢
 exact .of_eq (h us hl)
noncomputable def zlx (CX:CXT) (X:Cx) (E:XK):Prop:=∀ (pins:List (Addr × Obj)) (σ:St) (H:Hp) (s:Shared) (e:Value) (s':Shared),Inv X pins σ H s->CX X.stack H s E e s'->X.xe e s'
section
variable {X : Cx} {CX : CXT} {k : Nat} {f C : Addr} {fd : FuncData} {ps : List Str} {sp : Sp} {dvs : List V} {ds : List Value} {E : XK} {x m : Str} {p pos apos : Pos} {e o : Expr} {es : List Expr} {ta : TE} {t : TA}
theorem z2d {pins:List (Addr × Obj)} {σ:St} {H:Hp} {s:Shared} {Q:VK} {us:List Value} {vs:List V} (F:FnOk X.prog X.w X.K X.mg X.base CX k f fd ps sp) (hr:Room k X.A) (hb:Binds X.K fd ps ds) (hd:Vals dvs ds) (hx:zlx CX X E)
 (I:Inv X pins σ H s) (r:Vals vs us) (h:sp (vs++dvs) H Q E):wpAny (model X.prog X.w) X.A (call (.ref f) us) (EP X pins σ Q) X.xe s:=by
 have r2:Vals (vs++dvs) (us++ds):=r.append hd
 have hl:(us++ds).length=ps.length:=by rw [<- r2.length];exact F.len _ _ _ _ h
 refine wpAny_call (codeAny_mono (F.run X.A X.stack s H ⟨us,[]⟩ (us++ds) (vs++dvs) Q E hr I.env0 (hb s us I.kIn hl) r2 h) fun r s' hq=>?_)
 cases r with
 | error e=>exact hx pins σ H s e s' I hq
 | ok fl =>
   cases fl with
   | ret u=>exact I.after hq
   | next=>exact False.elim hq
   | brk=>exact False.elim hq
   | cont=>exact False.elim hq
theorem zgx (F:FnOk X.prog X.w X.K X.mg X.base CX k f fd ps sp) (hr:Room k X.A) (hg:Gl X x) (hm:X.mg x=some (.ref f)) (hk:PySem.W.keepIn X.K (.ref f)=true) (hb:Binds X.K fd ps ds) (hd:Vals dvs ds) (hx:zlx CX X E)
 (ha:PA X (e::es) t) (hdb:(x == ("__debug__" : Str))=false:=by decide) (he:starEach (e::es) X.env=(false,eval e X.env)::starEach es X.env:=by rfl) (hpl:(backTo pos (starEach es X.env)).any (·.1)=false:=by rfl) :
 PE X (.Call (.Name x p) (e::es) [] pos) (zeo sp dvs E t):=by
 intro pins s σ H Q I h
 refine wpAny_Call_Name_kw (zxk I hg hm ?_ hdb)
 refine PySem.W.callWith_K (h₀:=X.base) I.ok.mod.kin hk (thn (ha pos pins s σ H _ I h) fun us s1 ⟨vs,H1,I1,r,q⟩=>⟨I1.kIn,?_⟩) he hpl
 exact z2d F hr hb hd hx I1 r q
end
structure FnScope (N P:List Str) (sc:Scope):Prop where
 kind:sc.kind = .function
 co:sc.isCoroutine=false
 gen:sc.isGenerator=false
 nd:N.Nodup
 pre:N.take P.length=P
 par:∀ x ∈ P,sc.names.lookup x=some .local\/sc.names.lookup x=some .cell
 nofree:∀ y ∈ sc.names,y.2 ≠ .free
theorem zki {kindOf:Str->Option NameKind} {x:Str}:∀ {binds:List (Str × Value)} {m:Str->Option Value},(∀ v,(x,v) ∉ binds)->bindL kindOf binds m x=m x
 | [],_,_=>rfl
 | (n,v)::r,m,h=>by
   unfold bindL
   rw [zki fun w hw=>h w (List.mem_cons_of_mem _ hw)]
   split
   ·have:x ≠ n:=by rintro rfl;exact h v List.mem_cons_self
    simp [this]
   ·rfl
theorem zkt {kindOf:Str->Option NameKind} {x:Str}:∀ {binds:List (Str × Value)} {m:Str->Option Value},(∀ v,(x,v) ∉ binds)->bindC kindOf binds m x=m x
 | [],_,_=>rfl
 | (n,v)::r,m,h=>by
   unfold bindC
   rw [zkt fun w hw=>h w (List.mem_cons_of_mem _ hw)]
   split
   ·rfl
   ·have:x ≠ n:=by rintro rfl;exact h v List.mem_cons_self
    simp [this]
theorem zkp {kindOf:Str->Option NameKind} {x:Str} {v:Value}:∀ {P:List Str} {vs:List Value} {i:Nat} {m:Str->Option Value},P.Nodup->P[i]? = some x->vs[i]? = some v->kindOf x=some .local ->
 bindL kindOf (P.zip vs) m x=some v
 | [],_,_,_,_,h,_,_=>by simp at h
 | _::_,[],_,_,_,_,h,_=>by simp at h
 | p::P,w::vs,0,m,nd,h1,h2,hk=>by
   simp at h1 h2;subst h1;subst h2
   show bindL kindOf ((p,w)::P.zip vs) m p=_
   unfold bindL
   rw [zki fun v hv=>(List.nodup_cons.mp nd).1 (List.of_mem_zip hv).1,if_pos hk]
   simp
 | p::P,w::vs,i+1,m,nd,h1,h2,hk=>by
   show bindL kindOf ((p,w)::P.zip vs) m x=_
   unfold bindL
   exact zkp (i:=i) (List.nodup_cons.mp nd).2 (by simpa using h1) (by simpa using h2) hk
theorem zkm {kindOf:Str->Option NameKind} {x:Str} {v:Value}:∀ {P:List Str} {vs:List Value} {i:Nat} {m:Str->Option Value},P.Nodup->P[i]? = some x->vs[i]? = some v->kindOf x ≠ some .local ->
 bindC kindOf (P.zip vs) m x=some v
 | [],_,_,_,_,h,_,_=>by simp at h
 | _::_,[],_,_,_,_,h,_=>by simp at h
 | p::P,w::vs,0,m,nd,h1,h2,hk=>by
   simp at h1 h2;subst h1;subst h2
   show bindC kindOf ((p,w)::P.zip vs) m p=_
   unfold bindC
   rw [zkt fun v hv=>(List.nodup_cons.mp nd).1 (List.of_mem_zip hv).1,if_neg hk]
   simp
 | p::P,w::vs,i+1,m,nd,h1,h2,hk=>by
   show bindC kindOf ((p,w)::P.zip vs) m x=_
   unfold bindC
   exact zkm (i:=i) (List.nodup_cons.mp nd).2 (by simpa using h1) (by simpa using h2) hk
noncomputable def start (N:List Str) (vs:List V):St:=vs.map some++List.replicate (N.length - vs.length) none
noncomputable def cxOf (CX:CXT) (P:Program) (w:World) (K:PySem.W.Frag) (mg:Str->Option Value) (base:Heap) (N:List Str) (qual:Str) (scope:Scope) (f:Addr) (cd:Value) (A:Around) (outer:List Env) (s:Shared) (H:Hp) (E:XK):Cx where
 prog:=P
 w:=w
 K:=K
 mg:=mg
 base:=base
 A:=A.deeper (envOfC qual scope s.heap.objs.size f cd)
 N:=N
 s₀:=s
 H₀:=H
 env:=envOfC qual scope s.heap.objs.size f cd
 outer:=outer
 stack:=envOfC qual scope s.heap.objs.size f cd::outer
 ex := []
 calm:=true
 fn:=fun _=>true
 pn := []
 xe:=fun e s'=>wpAny (model P w) (A.deeper (envOfC qual scope s.heap.objs.size f cd)) (leaving (envOfC qual scope s.heap.objs.size f cd) e) (fun _ s''=>CX outer H s E e s'') (fun e' s''=>CX outer H s E e' s'') s'
theorem zmr {sc:Scope} {n:Nat} {x:Str} (h:sc.names.lookup x=some .cell):∃ c,(cellsFrom n sc.names []).lookup x=some c:=by
 have q:=PySem.W.cellsFrom_some sc.names n [] (.inl h)
 exact Option.isSome_iff_exists.mp q
theorem ztm {CX:CXT} {P:Program} {w:World} {K:PySem.W.Frag} {mg:Str->Option Value} {base:Heap} {N ps:List Str} {qual:Str} {scope:Scope} {f:Addr} {cd:Value} {A:Around} {outer:List Env} {s s1:Shared} {H:Hp} {E:XK} {us:List Value} {vs:List V}
 (S:FnScope N ps scope) (hd:A.handled=none) (e0:Env0 P w K mg base A outer s H) (hl:vs.length=ps.length) (r:Vals vs us)
 (x:InCallC s s.heap.objs.size (bindL (envOfC qual scope s.heap.objs.size f cd).kindOf (ps.zip us) fun _=>none) (cellsFrom (s.heap.objs.size+1) scope.names []) (bindC (envOfC qual scope s.heap.objs.size f cd).kindOf (ps.zip us) fun _=>none) s1) :
 Inv (cxOf CX P w K mg base N qual scope f cd A outer s H E) [] (start N vs) H s1:=by
 have hpl:ps.length<=N.length:=by have:=congrArg List.length S.pre;rw [List.length_take] at this;lia
 obtain ⟨h1,tk,rfl,hk⟩:=x.done
 have noA:∀ b:Addr,b ∉ (cxOf CX P w K mg base N qual scope f cd A outer s H E).ex:=fun b z=>absurd (show b ∈ ([]:List Addr) from z) (by simp)
 refine ⟨⟨e0.mod,S.kind,rfl,rfl,Nat.le_refl _,fun y z c h1 h2=>?_,fun y hy=>?_,fun y c _ h=>?_,fun _=>hd,Around.frames_deeper e0.frames,.inr ⟨rfl,rfl⟩,fun b z=>absurd z (noA b),e0.bs,e0.bsz,fun b _ _=>noA b,fun b z=>absurd z (noA b),e0.funs,e0.frf⟩,
  rfl,e0.bare,Un.kept hk,⟨_,x.toInCall.ns,fun i y v h1 h2 h3=>?_⟩,fun y c h=>⟨_,x.cell y c h⟩,e0.hok.fresh (Nat.le_refl _),fun y c h=>?_,fun p hp=>absurd (show p ∈ ([]:List (Addr × Obj)) from hp) (by simp),e0.hok.kept hk,?_⟩
 ·exact name_of_addr x.apart (PySem.mem_of_lookup h1) (PySem.mem_of_lookup h2)
 ·have hy:scope.names.lookup y=some .cell\/scope.names.lookup y=some .free:=hy
  rcases hy with hy | hy
  ·exact zmr hy
  ·exact absurd rfl (S.nofree _ (PySem.mem_of_lookup hy))
 ·exact Nat.le_of_lt (x.above y c (PySem.mem_of_lookup h))
 ·have hi:i<vs.length:=by
   unfold start at h2
   by_cases hi:i<vs.length
   ·exact hi
   ·rw [List.getElem?_append_right (by simpa using hi)] at h2
    rw [List.getElem?_replicate] at h2
    split at h2 <;> cases h2
  have ha:vs[i]? = some v:=by
   unfold start at h2
   rw [List.getElem?_append_left (by simpa using hi),List.getElem?_map] at h2
   cases e:vs[i]? with
   | none=>rw [e] at h2;cases h2
   | some a=>rw [e] at h2;cases h2;rfl
  obtain ⟨u,hu,rv⟩:=r.get ha
  have hp:ps[i]? = some y:=by
   rw [<- S.pre,List.getElem?_take_of_lt (by lia)];exact h1
  have ndP:ps.Nodup:=by rw [<- S.pre];exact S.nd.sublist (List.take_sublist _ _)
  refine ⟨u,rv,?_⟩
  rcases S.par y (List.mem_of_getElem? hp) with k | k
  ·exact .inl ⟨k,zkp ndP hp hu k⟩
  ·obtain ⟨c,e⟩:=zmr (n:=s.heap.objs.size+1) k
   refine .inr ⟨.inl k,c,e,?_⟩
   have q:=x.cell y c e
   rw [zkm ndP hp hu (by show scope.names.lookup y ≠ _;rw [k];decide)] at q
   exact q
 ·exact e0.hok.fresh (Nat.le_of_lt (x.above y c (PySem.mem_of_lookup h)))
 ·unfold start
  show _=N.length
  rw [List.length_append,List.length_map,List.length_replicate]
  lia
theorem z3q {CX:CXT} {P:Program} {w:World} {K:PySem.W.Frag} {mg:Str->Option Value} {base:Heap} {k:Nat} {f:Addr} {name qual:Str} {params:Arguments} {body:List Stmt} {scope:Scope} {dV kV doc pm cdv ct oc:Value} {an od:Option Addr}
 {osl:Array (Option Value)} {N ps:List Str} {sp:Sp} (lk:K.lookup f=some ⟨oc,od,.func (PySem.W.fnOf name qual params body scope dV kV doc pm an cdv ct),osl⟩) (hcd:PySem.W.codeIn K cdv qual=true) (S:FnScope N ps scope)
 (len:∀ vs H Q E,sp vs H Q E->vs.length=ps.length)
 (hbody:∀ (A:Around) (outer:List Env) (s:Shared) (H:Hp) (vs:List V) (Q:VK) (E:XK),Room k (A.deeper (envOfC qual scope s.heap.objs.size f cdv))->sp vs H Q E ->
  ∃ t,PSs (cxOf CX P w K mg base N qual scope f cdv A outer s H E) body t/\t { nx:=fun _ H'=>Q .non H',rt:=Q } (start N vs) H) :
 FnOk P w K mg base CX (k+1) f (PySem.W.fnOf name qual params body scope dV kV doc pm an cdv ct) ps sp:=by
 refine ⟨len,fun A outer s H args us vs Q E hr e0 hb r hsp=>?_⟩
 have hl:=len _ _ _ _ hsp
 have KX:K.In s.heap:=e0.mod.kin.keeps fun b o e=>(e0.bs b o e).1
 have lim:s.heap.NoLimit:=e0.mod.nolimit.keeps fun b o e=>(e0.bs b o e).1
 have hkind:∀ y ∈ ps.zip us,scope.names.lookup y.1=some .local\/(scope.names.lookup y.1=some .cell/\((cellsFrom (s.heap.objs.size+1) scope.names []).lookup y.1).isSome=true):=fun ⟨n,v⟩ hy=>by
  rcases S.par n (List.of_mem_zip hy).1 with q | q
  ·exact .inl q
  ·exact .inr ⟨q,PySem.W.cellsFrom_some _ _ _ (.inl q)⟩
 refine codeAny_call_function hr.depth (KX _ _ lk) rfl S.co S.gen rfl (PySem.W.codeRec_of KX hcd) (hb _ _ _ _ ?_)
 refine wpAny_newFunctionEnv_cells S.kind hkind fun env he s1 x=>?_
 subst he
 refine ⟨lim.keeps x.toInCall.keep,codeAny_func ?_⟩
 obtain ⟨t,ht,hq⟩:=hbody A outer s H vs Q E (hr.deeper _) hsp
 have I:Inv (cxOf CX P w K mg base N qual scope f cdv A outer s H E) [] (start N vs) H s1:=ztm S hr.hd e0 hl r x
 refine wpAny_mono (ht [] s1 (start N vs) H _ I hq) (fun fl s' hs=>?_) fun e s' hs=>hs
 have fin:∀ {σ':St} {H':Hp} {v:V} {u:Value},Inv (cxOf CX P w K mg base N qual scope f cdv A outer s H E) [] σ' H' s'->RelV v u->Q v H'->CE outer P w H s Q u s' :=
  fun {σ' H' v u} J rv q=>⟨v,H',J.os,J.bare,J.base,J.hok,rv,q⟩
 cases fl with
 | ret u =>
   obtain ⟨v,σ',H',J,rv,q⟩:=hs
   exact fin J rv q
 | next =>
   obtain ⟨σ',H',J,q⟩:=hs
   exact fin (v:=V.non) (u:=Value.none) J rfl q
 | brk =>
   obtain ⟨_,_,_,q⟩:=hs
   exact False.elim q
 | cont =>
   obtain ⟨_,_,_,q⟩:=hs
   exact False.elim q
end L2
namespace L2
open PySem PySem.Spec PyProof.Rows
section
variable {X : Cx} {x : Str} {p pos : Pos} {e : Expr} {es : List Expr} {t : TA} {id T : String} {r : List V → Hp → VK → Prop}
noncomputable def tCB (r:List V->Hp->VK->Prop) (t:TA):TE:=fun σ H Q=>t σ H fun vs H1=>r vs H1 Q
theorem zfm (hc:zb2 X (.builtin id) r) (hg:Gl X x) (hm:X.mg x=none) (hv:bootBuiltins x=some (.builtin id)) (ha:PA X (e::es) t) (hn:x ≠ "__name__" := by decide) (hdb:(x == ("__debug__" : Str))=false:=by decide)
 (he:starEach (e::es) X.env=(false,eval e X.env)::starEach es X.env:=by rfl) (hpl:(backTo pos (starEach es X.env)).any (·.1)=false:=by rfl):PE X (.Call (.Name x p) (e::es) [] pos) (tCB r t):=by
 intro pins s σ H Q I h
 refine wpAny_Call_Name_kw (zc0 I hg hm hv ?_ hn hdb)
 exact PyProof.Rows.callWith_builtin1 (thn (ha pos pins s σ H _ I h) fun us s1 ⟨vs,H1,I1,r1,q1⟩=>hc pins s1 σ H1 vs us Q I1 r1 q1) he hpl
theorem zcs (hc:zb2 X (.type T) r) (hg:Gl X x) (hm:X.mg x=none) (hv:bootBuiltins x=some (.type T)) (ha:PA X (e::es) t) (hn:x ≠ "__name__" := by decide) (hdb:(x == ("__debug__" : Str))=false:=by decide)
 (he:starEach (e::es) X.env=(false,eval e X.env)::starEach es X.env:=by rfl) (hpl:(backTo pos (starEach es X.env)).any (·.1)=false:=by rfl):PE X (.Call (.Name x p) (e::es) [] pos) (tCB r t):=by
 intro pins s σ H Q I h
 refine wpAny_Call_Name_kw (zc0 I hg hm hv ?_ hn hdb)
 exact PyProof.Rows.callWith_type1 (thn (ha pos pins s σ H _ I h) fun us s1 ⟨vs,H1,I1,r1,q1⟩=>hc pins s1 σ H1 vs us Q I1 r1 q1) he hpl
end
end L2
namespace HT
open PySem PyProof.Rows
section
variable {prog : Program} {w : World} {A : Around} {E : Value → Shared → Prop} {s : Shared}
theorem cat_tup {t b:Addr} {vs ws:List Value} {Q:Value->Shared->Prop} (ht:IsTup s.heap t vs.toArray) (hb:IsTup s.heap b ws.toArray) (hv:vs ≠ [])
 (h1:ws = []->Q (.ref t) s) (h2:ws ≠ []->Q (.ref s.heap.objs.size) { s with heap:=s.heap.push { cls := .type "tuple", data := .seq (vs++ws).toArray } })
 (hsz:vs.length+ws.length<=sizeLine):wpAny (model prog w) A (binaryOp .Add (.ref t) (.ref b)) Q E s:=by
 obtain ⟨⟨cls,dd,data,sl⟩,ho,hc,n,hd⟩:=id ht
 obtain ⟨⟨cls2,dd2,data2,sl2⟩,ho2,hc2,n2,hd2⟩:=id hb
 simp only at hc hd hc2 hd2
 subst hc hd hc2 hd2
 have e:vs.toArray++ws.toArray=(vs++ws).toArray:=by simp
 by_cases hw:ws = []
 ·exact concat_meets ⟨_,ho,rfl⟩ ⟨_,ho2,rfl⟩ noFill_tuple_add seq_tuple_add PySem.F.slot_tuple_add PySem.F.entry_tuple_add (PySem.F.args_tuple_add_2 _ _)
   (tuple_addW1 t b vs.toArray ws.toArray n n2 dd dd2 sl sl2 (by simpa using hv) (by simp [hw])) ⟨ho,ho2,h1 hw⟩
 ·refine concat_meets ⟨_,ho,rfl⟩ ⟨_,ho2,rfl⟩ noFill_tuple_add seq_tuple_add PySem.F.slot_tuple_add PySem.F.entry_tuple_add (PySem.F.args_tuple_add_2 _ _)
   (tuple_addW2 t b vs.toArray ws.toArray n n2 dd dd2 sl sl2 (by simpa using hv) (by simpa using hw) (by rw [List.size_toArray,List.size_toArray];exact hsz)) ⟨ho,ho2,?_⟩
  rw [e]
  exact h2 hw
noncomputable def sIx (n d:Nat):Option Int->Nat
 | none=>d
 | some v=>if v<0 then (v+(n:Int)).toNat else min v.toNat n
theorem sIx_le (n d:Nat) (hd:d<=n) (o:Option Int):sIx n d o<=n:=by
 cases o with
 | none=>exact hd
 | some v =>
   show (if v<0 then (v+(n:Int)).toNat else min v.toNat n)<=n
   by_cases hv:v<0
   ·rw [if_pos hv];lia
   ·rw [if_neg hv];exact Nat.min_le_right _ _
theorem clip_eq (v:Int) (n d:Nat):(if v<0 then max (v+(n:Int)) 0 else min v (n:Int))=((sIx n d (some v):Nat):Int):=by
 show (if v<0 then max (v+(n:Int)) 0 else min v (n:Int))=(((if v<0 then (v+(n:Int)).toNat else min v.toNat n):Nat):Int)
 by_cases hv:v<0
 ·simp only [if_pos hv];lia
 ·simp only [if_neg hv];lia
theorem zqh (lo hi:Option Int) (n:Nat):Builtin.Slice.sliceAdjust lo hi 1 (n:Int)=(((sIx n 0 lo:Nat):Int),((sIx n n hi:Nat):Int)):=by
 have h1:¬ ((1:Int)<0):=by lia
 unfold Builtin.Slice.sliceAdjust
 simp only [h1,if_false]
 refine Prod.ext ?_ ?_
 ·cases lo with
  | none=>rfl
  | some v=>exact clip_eq v n 0
 ·cases hi with
  | none=>rfl
  | some v=>exact clip_eq v n n
theorem zqr (i j:Nat):Builtin.Slice.slicePlaces (i:Int) (j:Int) 1=j - i:=by
 unfold Builtin.Slice.slicePlaces
 have h1:(1:Int) > 0:=by lia
 simp only [h1,if_true,Int.ediv_one]
 split <;> lia
theorem zio {v:Value} {o:Option Int} {Q:Option Int->Shared->Prop} (p:IsPart v o) (h:Q o s):wpAny (model prog w) A (Builtin.Slice.slicePartIndex v) Q E s:=by
 cases p with
 | none=>exact slicePart_none h
 | int i t=>exact slicePart_int h
theorem sliceApplied_gen {sl:Addr} {vl vu:Value} {lo hi:Option Int} {n:Nat} {Q:Int × Int × Nat->Shared->Prop} (hs:s.heap.IsSliceOf sl vl vu .none) (pl:IsPart vl lo) (pu:IsPart vu hi)
 (h:Q (((sIx n 0 lo:Nat):Int),1,sIx n n hi - sIx n 0 lo) s):wpAny (model prog w) A (Builtin.Slice.sliceApplied (.ref sl) (pure (n:Int))) Q E s:=by
 obtain ⟨os,hos,hcs,hds⟩:=id hs
 unfold Builtin.Slice.sliceApplied Builtin.Slice.sliceFields
 refine wpAny_bind (wpAny_bind (wpAny_field hos hds (x:=vl) rfl (wpAny_bind (wpAny_field hos hds (x:=vu) rfl (wpAny_bind (wpAny_field hos hds (x := .none) rfl (wpAny_pure ?_)))))))
 refine wpAny_bind (slicePart_none ?_)
 show wpAny _ _ (if ((1:Int) == 0)=true then _ else _) _ _ s
 rw [if_neg (by decide)]
 refine wpAny_bind (zio pl (wpAny_bind (zio pu (wpAny_bind (wpAny_pure ?_)))))
 show wpAny _ _ (match Builtin.Slice.sliceAdjust lo hi 1 (n:Int) with | (lo,hi)=>pure (lo,(1:Int),Builtin.Slice.slicePlaces lo hi 1)) _ _ s
 rw [zqh lo hi n]
 show wpAny _ _ (pure (((sIx n 0 lo:Nat):Int),(1:Int),Builtin.Slice.slicePlaces ((sIx n 0 lo:Nat):Int) ((sIx n n hi:Nat):Int) 1)) _ _ s
 rw [zqr]
 exact wpAny_pure h
theorem zuu (xs:Array Value) (i k:Nat):((List.range k).filterMap fun (m:Nat)=>xs[((i:Int)+(m:Int) * 1).toNat]?).toArray=((xs.toList.drop i).take k).toArray:=by
 have e:(fun (m:Nat)=>xs[((i:Int)+(m:Int) * 1).toNat]?)=fun m=>xs[i+m]?:=by
  funext m
  have:((i:Int)+(m:Int) * 1).toNat=i+m:=by lia
  rw [this]
 rw [e]
 have:=pick_run xs i k
 rw [List.filterMap_map] at this
 have e2:((fun x=>xs[x]?) ∘ fun x=>i+x)=fun m=>xs[i+m]?:=rfl
 rw [e2] at this
 rw [this]
theorem getItem_tuple_cut {t sl:Addr} {items:Array Value} {vl vu:Value} {lo hi:Option Int} {Q:Value->Shared->Prop} (ht:IsTup s.heap t items) (hs:s.heap.IsSliceOf sl vl vu .none) (pl:IsPart vl lo) (pu:IsPart vu hi)
 (hw:¬ (sIx items.size 0 lo=0/\sIx items.size items.size hi=items.size))
 (h:Q (.ref s.heap.objs.size) { s with heap:=s.heap.push { cls := .type "tuple", data := .seq ((items.toList.drop (sIx items.size 0 lo)).take (sIx items.size items.size hi - sIx items.size 0 lo)).toArray } })
 (hsz:items.size<=sizeLine):wpAny (model prog w) A (getItem (.ref t) (.ref sl)) Q E s:=by
 have htake:sizeOk (.seq ((items.toList.drop (sIx items.size 0 lo)).take (sIx items.size items.size hi - sIx items.size 0 lo)).toArray):=by
  show ((items.toList.drop (sIx items.size 0 lo)).take (sIx items.size items.size hi - sIx items.size 0 lo)).toArray.size<=sizeLine
  rw [List.size_toArray,List.length_take,List.length_drop,Array.length_toList]
  lia
 have hj:sIx items.size items.size hi<=items.size:=sIx_le _ _ (Nat.le_refl _) hi
 obtain ⟨os,hos,hcs,hds⟩:=id hs
 have hTs:s.TypeIs (.ref sl) "slice" := ⟨os,hos,hcs⟩
 unfold getItem
 try with_reducible refine wpAny_holding ?_
 first | refine wpAny_bind (wpAny_pure ?_) | skip
 refine wpAny_bind (wpAny_sequenceKey ht.typeIs (by decide) ?_)
 refine wpAny_bind (wpAny_callSpecial?_slot (name:=Str.ofString "__getitem__") ht.typeIs PyProof.Rows.slot_tuple_getitem
  (wpAny_call_entry PyProof.Rows.slot_tuple_getitem ht.typeIs entry_tuple_getitem ?_ (args_tuple_getitem _ _)))
 show wpAny _ _ (Builtin.Tuple.tupleItemsOf (.ref t) >>= _) _ _ s
 refine wpAny_bind (tupleItemsOf_ ht ?_)
 refine wpAny_bind (wpAny_typeOf hTs ?_)
 rw [if_pos (by decide)]
 refine wpAny_bind (sliceApplied_gen hs pl pu ?_)
 have hno:¬ ((((sIx items.size 0 lo:Nat):Int) == 0 && (1:Int) == 1 && (sIx items.size items.size hi - sIx items.size 0 lo) == items.size)=true):=by
  intro q
  rw [Bool.and_eq_true,Bool.and_eq_true] at q
  have q1:((sIx items.size 0 lo:Nat):Int)=0:=eq_of_beq q.1.1
  have q2:sIx items.size items.size hi - sIx items.size 0 lo=items.size:=eq_of_beq q.2
  exact hw ⟨by lia,by lia⟩
 show wpAny _ _ (if (((sIx items.size 0 lo:Nat):Int) == 0 && (1:Int) == 1 && (sIx items.size items.size hi - sIx items.size 0 lo) == items.size)=true then _ else _) _ _ s
 rw [if_neg hno,zuu]
 first
  | exact wpAny_bind (m:=Builtin.Tuple.tupleExact _) (wpAny_newObj_type (wpAny_pure ⟨_,rfl,wpAny_pure h⟩) htake)
  | exact wpAny_bind (m:=Builtin.Tuple.tupleExact _) (wpAny_newObj_type (wpAny_bind (wpAny_pure (wpAny_pure ⟨_,rfl,wpAny_pure h⟩))) htake)
  | exact wpAny_bind (wpAny_bind (m:=Builtin.Tuple.tupleExact _) (wpAny_newObj_type (wpAny_pure (wpAny_pure ⟨_,rfl,wpAny_pure h⟩)) htake))
  | exact wpAny_bind (wpAny_bind (m:=Builtin.Tuple.tupleExact _) (wpAny_newObj_type (wpAny_pure ⟨_,rfl,wpAny_pure h⟩) htake))
end
end HT
namespace L2
open PySem PySem.Spec PyProof.Rows
noncomputable abbrev TO:=St->Hp->(Option Int->Hp->Prop)->Prop
noncomputable def PO (X:Cx) (e:Option Expr) (t:TO):Prop :=
 ∀ (pins:List (Addr × Obj)) (s:Shared) (σ:St) (H:Hp) (Q:Option Int->Hp->Prop),Inv X pins σ H s->t σ H Q ->
   wpAny (model X.prog X.w) X.A (evalPart e X.env) (fun u s'=>∃ o H',Inv X pins σ H' s'/\IsPart u o/\Q o H') X.xe s
noncomputable def zpu:TO:=fun _ H Q=>Q none H
noncomputable def zlo (t:TE):TO:=fun σ H Q=>t σ H fun x H1=>∃ i,x = .int i/\Q (some i) H1
section
variable {X : Cx} {e : Expr} {te : TE} {lo hi : Option Expr} {tl th : TO} {pos p2 : Pos}
theorem zzr:PO X none zpu:=by
 intro pins s σ H Q I h
 rw [evalPart_none]
 exact wpAny_pure ⟨none,H,I,.none,h⟩
theorem zjf (h:PE X e te):PO X (some e) (zlo te):=by
 intro pins s σ H Q I hw
 rw [evalPart_some]
 refine thn (h pins s σ H _ I hw) fun u s1 ⟨x,H1,I1,r1,q1⟩=>?_
 obtain ⟨i,rfl,q⟩:=q1
 obtain ⟨t,rfl⟩:=r1
 exact ⟨some i,H1,I1,.int i t,q⟩
noncomputable def SlR (X:Cx) (r:V->Option Int->Option Int->Hp->VK->Prop):Prop :=
 ∀ (pins:List (Addr × Obj)) (s:Shared) (σ:St) (H:Hp) (x:V) (v vl vu:Value) (lo hi:Option Int) (sl:Addr) (Q:VK),Inv X pins σ H s->RelV x v->s.heap.IsSliceOf sl vl vu .none->IsPart vl lo->IsPart vu hi->r x lo hi H Q ->
   ∃ T id,typeLookup (.type T) "__getitem__" = pure (some (.builtin id))/\s.TypeIs v T/\wpAny (model X.prog X.w) X.A (getItem v (.ref sl)) (EP X pins σ Q) X.xe s
theorem SlR.or {r r':V->Option Int->Option Int->Hp->VK->Prop} (h:SlR X r) (h':SlR X r'):SlR X (fun x lo hi H Q=>r x lo hi H Q\/r' x lo hi H Q):=by
 intro pins s σ H x v vl vu lo hi sl Q I rx hs pl pu q
 rcases q with q | q
 ·exact h pins s σ H x v vl vu lo hi sl Q I rx hs pl pu q
 ·exact h' pins s σ H x v vl vu lo hi sl Q I rx hs pl pu q
noncomputable def tSl (r:V->Option Int->Option Int->Hp->VK->Prop) (te:TE) (tl th:TO):TE:=fun σ H Q=>te σ H fun x H1=>tl σ H1 fun l H2=>th σ H2 fun u H3=>r x l u H3 Q
theorem znp {r:V->Option Int->Option Int->Hp->VK->Prop} (hr:SlR X r) (he:PE X e te) (hl:PO X lo tl) (hu:PO X hi th):PE X (.Subscript e (.Slice lo hi none p2) pos) (tSl r te tl th):=by
 intro pins s σ H Q I h
 refine Subscript_ (thn (he pins s σ H _ I h) fun v s1 ⟨x,H1,I1,r1,q1⟩=>?_)
 refine wpAny_Slice (thn (hl pins s1 σ H1 _ I1 q1) fun vl s2 ⟨l,H2,I2,pl,q2⟩=>thn (hu pins s2 σ H2 _ I2 q2) fun vu s3 ⟨u,H3,I3,pu,q3⟩=>?_)
 rw [evalPart_none]
 refine wpAny_pure ?_
 have I4:Inv X pins σ H3 { s3 with heap:=s3.heap.push { cls := .type "slice", data := .fields #[vl,vu,.none] } }:=I3.kept (t':=s3.toks) fun b ob q=>Heap.get?_push_of_some _ q
 obtain ⟨T,id,hT,ht,hg⟩:=hr pins { s3 with heap:=s3.heap.push { cls := .type "slice", data := .fields #[vl,vu,.none] } } σ H3 x v vl vu l u s3.heap.objs.size Q I4 r1 (Heap.IsSliceOf.new ..) pl pu q3
 show wpAny (model X.prog X.w) X.A (subscriptTail e (.Slice lo hi none p2) v (.ref s3.heap.objs.size)) (EP X pins σ Q) X.xe { s3 with heap:=s3.heap.push { cls := .type "slice", data := .fields #[vl,vu,.none] } }
 exact tail_any (ops := [.ref s3.heap.objs.size,v]) ht hT hg (by with_unfolding_all rfl)
noncomputable def cutV (xs:List V) (lo hi:Option Int):List V:=(xs.drop (HT.sIx xs.length 0 lo)).take (HT.sIx xs.length xs.length hi - HT.sIx xs.length 0 lo)
theorem zhc (xs:List V) (lo hi:Option Int):(cutV xs lo hi).length<=xs.length:=by
 unfold cutV
 rw [List.length_take,List.length_drop]
 lia
noncomputable def rSlT (K:PySem.W.Frag):V->Option Int->Option Int->Hp->VK->Prop:=fun x lo hi H Q=>∃ a xs,x = .ref a/\SqT K H a xs /\
 ¬ (HT.sIx xs.length 0 lo=0/\HT.sIx xs.length xs.length hi=xs.length)/\∀ p,H p=none->Q (.ref p) (upd H p (.tup (cutV xs lo hi)))
theorem sl_tup:SlR X (rSlT X.K):=by
 intro pins s σ H x v vl vu lo hi sl Q I rx hs pl pu h
 obtain ⟨a,xs,rfl,hx,hw,q⟩:=h
 cases rx
 obtain ⟨its,r,ht,hz⟩:=I.tuple hx
 have hlen:its.toArray.size=xs.length:=by rw [List.size_toArray];exact r.length.symm
 refine ⟨"tuple", _,PyProof.Rows.slot_tuple_getitem.lookup,ht.typeIs,?_⟩
 refine HT.getItem_tuple_cut ht hs pl pu (by rw [hlen];exact hw) ?_ (by rw [hlen];exact hz)
 rw [hlen]
 refine ⟨.ref s.heap.objs.size,_,I.laid (t':=s.toks) (o := .tup (cutV xs lo hi)) (fun b ob q=>Heap.get?_push_of_some _ q) (Nat.le_refl _) ?_,rfl,q _ (I.hok.fresh (Nat.le_refl _))⟩
 exact ⟨Nat.le_trans (zhc xs lo hi) hz,_,(r.drop (HT.sIx xs.length 0 lo)).take (HT.sIx xs.length xs.length hi - HT.sIx xs.length 0 lo),IsTup.new _ _⟩
noncomputable def zwk (K:PySem.W.Frag):R2:=fun x y H Q=>∃ a b xs ys,x = .ref a/\y = .ref b/\SqT K H a xs/\SqT K H b ys/\xs ≠ []/\xs.length+ys.length<=sizeLine /\
 (ys = []->Q (.ref a) H)/\(ys ≠ []->∀ p,H p=none->Q (.ref p) (upd H p (.tup (xs++ys))))
theorem Vals.nil_iff {xs:List V} {us:List Value} (r:Vals xs us):us = []↔xs = []:=by
 cases r with
 | nil=>simp
 | cons _ _=>simp
theorem op_catT:OpR X (binaryOp .Add) (zwk X.K):=by
 intro pins s σ H x y v u Q I rx ry h
 obtain ⟨a,b,xs,ys,rfl,rfl,ha,hb,hx,hz,q1,q2⟩:=h
 cases rx
 cases ry
 obtain ⟨its,r1,p1,_⟩:=I.tuple ha
 obtain ⟨its2,r2,p2,_⟩:=I.tuple hb
 refine HT.cat_tup p1 p2 (fun z=>hx (r1.nil_iff.mp z)) (fun z=>⟨.ref a,H,I,rfl,q1 (r2.nil_iff.mp z)⟩) (fun z=>?_) (by rw [<- r1.length,<- r2.length];exact hz)
 refine ⟨.ref s.heap.objs.size,_,I.laid (t':=s.toks) (o := .tup (xs++ys)) (fun b ob q=>Heap.get?_push_of_some _ q) (Nat.le_refl _) ?_,rfl,q2 (fun w=>z (r2.nil_iff.mpr w)) _ (I.hok.fresh (Nat.le_refl _))⟩
 exact ⟨by rw [List.length_append];exact hz,_,r1.append r2,IsTup.new _ _⟩
end
end L2
namespace L2
open PySem PySem.Spec PyProof.Rows
noncomputable def ixN (n:Nat) (i:Int):Option Nat:=if 0<=i then (if i<n then some i.toNat else none) else if -(n:Int)<=i then some (i+n).toNat else none
noncomputable def atI {α:Type} (xs:List α) (i:Int):Option α:=(ixN xs.length i).bind fun j=>xs[j]?
theorem zpk {n:Nat} {i:Int} {j:Nat} (h:ixN n i=some j):seqIndex? i n=some j/\j<n/\-(n:Int)<=i/\i<n:=by
 unfold ixN at h
 by_cases h0:0<=i
 ·rw [if_pos h0] at h
  by_cases h1:i<n
  ·rw [if_pos h1] at h
   have e:i.toNat=j:=Option.some.inj h
   exact ⟨by rw [seqIndex_of h0 h1,e],by lia,by lia,h1⟩
  ·rw [if_neg h1] at h;cases h
 ·rw [if_neg h0] at h
  by_cases h1:-(n:Int)<=i
  ·rw [if_pos h1] at h
   have e:(i+n).toNat=j:=Option.some.inj h
   exact ⟨by rw [seqIndex_neg (by lia) h1,e],by lia,h1,by lia⟩
  ·rw [if_neg h1] at h;cases h
theorem zjw {α:Type} {xs:List α} {i:Int} {v:α} (h:atI xs i=some v):∃ j,seqIndex? i xs.length=some j/\xs[j]? = some v/\j<xs.length/\-(xs.length:Int)<=i/\i<xs.length:=by
 unfold atI at h
 cases e:ixN xs.length i with
 | none=>rw [e] at h;cases h
 | some j =>
   rw [e] at h
   obtain ⟨h1,h2,h3,h4⟩:=zpk e
   exact ⟨j,h1,h,h2,h3,h4⟩
theorem zgn {α:Type} {xs:List α} {j:Nat} {v:α} (h:xs[j]? = some v):atI xs (j:Int)=some v:=by
 have hj:j<xs.length:=(List.getElem?_eq_some_iff.mp h).1
 have e:ixN xs.length (j:Int)=some j:=by
  unfold ixN
  rw [if_pos (by lia),if_pos (by lia)];simp
 unfold atI;rw [e];exact h
theorem zn5 {α:Type} (xs:List α) (v:α):atI (xs ++ [v]) (-1)=some v:=by
 have hl:(xs ++ [v]).length=xs.length+1:=by simp
 have e:ixN (xs ++ [v]).length (-1)=some xs.length:=by
  unfold ixN
  rw [hl,if_neg (by decide),if_pos (by lia)]
  congr 1
  lia
 unfold atI
 rw [e]
 show (xs ++ [v])[xs.length]? = some v
 simp
noncomputable def zor (b:Expr):Prop:=∀ o i,subscripted b false o i=operate [o,i] (getItem o i)
noncomputable def IxR (X:Cx) (r:R2):Prop :=
 ∀ (value slice:Expr) (pins:List (Addr × Obj)) (s:Shared) (σ:St) (H:Hp) (x y:V) (v u:Value) (Q:VK),Inv X pins σ H s->RelV x v->RelV y u->r x y H Q ->
   subscripted slice false v u=operate [v,u] (getItem v u)->wpAny (model X.prog X.w) X.A (subscriptTail value slice v u) (EP X pins σ Q) X.xe s
noncomputable def MtR (X:Cx) (id:String) (r:V->List V->Hp->VK->Prop):Prop :=
 ∀ (pins:List (Addr × Obj)) (s:Shared) (σ:St) (H:Hp) (x:V) (xs:List V) (v:Value) (us:List Value) (Q:VK),Inv X pins σ H s->RelV x v->Vals xs us->r x xs H Q ->
   wpAny (model X.prog X.w) X.A (call (.builtin id) (v::us)) (EP X pins σ Q) X.xe s
section
variable {X : Cx} {a b : Expr} {ta tb : TE} {pos : Pos}
theorem IxR.or {r r':R2} (h:IxR X r) (h':IxR X r'):IxR X (fun x y H Q=>r x y H Q\/r' x y H Q):=by
 intro value slice pins s σ H x y v u Q I rx ry q hs
 rcases q with q | q
 ·exact h value slice pins s σ H x y v u Q I rx ry q hs
 ·exact h' value slice pins s σ H x y v u Q I rx ry q hs
theorem zd1 {r:R2} (hr:IxR X r) (ha:PE X a ta) (hb:PE X b tb) (hs:zor b):PE X (.Subscript a b pos) (tOp r ta tb):=by
 intro pins s σ H Q I h
 exact Subscript_ (binT ha hb I h fun v u s2 x y H2 I2 rx ry q=>hr a b pins s2 σ H2 x y v u Q I2 rx ry q (hs _ _))
noncomputable def rIxL (K:PySem.W.Frag):R2:=fun x y H Q=>∃ p xs i v,x = .ref p/\y = .int i/\SqL K H p xs/\atI xs i=some v/\Q v H
noncomputable def rIxT (K:PySem.W.Frag):R2:=fun x y H Q=>∃ p xs i v,x = .ref p/\y = .int i/\SqT K H p xs/\atI xs i=some v/\Q v H
noncomputable def rIxS:R2:=fun x y H Q=>∃ z i c,x = .str z/\y = .int i/\z.length<=sizeLine/\atI z.cps.toList i=some c/\Q (.str ⟨#[c]⟩) H
theorem ix_list:IxR X (rIxL X.K):=by
 intro value slice pins s σ H x y v u Q I rx ry h hs
 obtain ⟨p,xs,i,z,rfl,rfl,hq,he,q⟩:=h
 cases rx
 obtain ⟨t,rfl⟩:=ry
 obtain ⟨its,r,pl,hz⟩:=I.list hq
 obtain ⟨j,h1,h2,h3,h4,h5⟩:=zjw he
 obtain ⟨w,ew,rw'⟩:=r.get h2
 have hl:=r.length
 have hn:=zev
 have fin:EP X pins σ Q w s:=⟨z,H,I,rw',q⟩
 by_cases h0:0<=i
 ·have hj:i.toNat=j:=by
   rw [seqIndex_of h0 h5] at h1
   exact Option.some.inj h1
  exact item_listR pl.isList h0 (by lia) (by rw [hj];simpa using ew) fin hs
 ·have hj:(i+(its.toArray.size:Int)).toNat=j:=by
   rw [seqIndex_neg (by lia) h4] at h1
   rw [List.size_toArray,<- hl]
   exact Option.some.inj h1
  exact subscriptTail_builtinR (x:=w) pl.isList.typeIs slot_list_getitem.lookup
   (wpAny_getItem_list_neg (Q:=fun r s'=>r=w/\EP X pins σ Q r s') pl.isList (by lia) (by rw [List.size_toArray] <;> lia) (by lia) (by rw [hj];simpa using ew) ⟨rfl,fin⟩) hs
theorem ix_tup:IxR X (rIxT X.K):=by
 intro value slice pins s σ H x y v u Q I rx ry h hs
 obtain ⟨p,xs,i,z,rfl,rfl,hq,he,q⟩:=h
 cases rx
 obtain ⟨t,rfl⟩:=ry
 obtain ⟨its,r,pl,hz⟩:=I.tuple hq
 obtain ⟨j,h1,h2,h3,h4,h5⟩:=zjw he
 obtain ⟨w,ew,rw'⟩:=r.get h2
 have hl:=r.length
 have hn:=zev
 have fin:EP X pins σ Q w s:=⟨z,H,I,rw',q⟩
 exact subscriptTail_builtinR (x:=w) pl.typeIs slot_tuple_getitem.lookup
  (getItem_tuple (j:=j) (Q:=fun r s'=>r=w/\EP X pins σ Q r s') pl (by lia) (by lia) (by rw [List.size_toArray,<- hl];exact h1) (by simpa using ew) ⟨rfl,fin⟩) hs
theorem z1j:IxR X rIxS:=by
 intro value slice pins s σ H x y v u Q I rx ry h hs
 obtain ⟨z,i,c,rfl,rfl,hz,he,q⟩:=h
 obtain ⟨t,rfl⟩:=rx
 obtain ⟨t',rfl⟩:=ry
 obtain ⟨j,h1,h2,h3,h4,h5⟩:=zjw he
 have hl:z.cps.toList.length=z.length:=by simp [Str.length]
 rw [hl] at h1 h4 h5
 have hn:=zev
 exact tail_any (typeIs_str s z t) slot_str_getitem.lookup (getItem_str (c:=c) (by
  have e1:decide (i < -(2 ^ 63:Int))=false:=decide_eq_false (by lia)
  have e2:decide (i ≥ 2 ^ 63)=false:=decide_eq_false (by lia)
  rw [e1,e2,Bool.or_false]) (by rw [h1];simpa using h2) ⟨.str ⟨#[c]⟩,H,I.tok _,⟨_,rfl⟩,q⟩) hs
noncomputable def rIx (K:PySem.W.Frag):R2:=fun x y H Q=>rIxL K x y H Q\/rIxT K x y H Q\/rIxS x y H Q
theorem z2b:IxR X (rIx X.K):=ix_list.or (ix_tup.or z1j)
theorem zqw (its:List Value) (n j:Nat) (u:Value):Obj.mapSeq (·.setIfInBounds j u) { cls := .type "list", data := .seq its.toArray n } = { cls := .type "list", data := .seq (its.set j u).toArray n }:=by
 simp [Obj.mapSeq]
theorem Inv.lst {pins:List (Addr × Obj)} {σ:St} {H:Hp} {s:Shared} {p:Addr} {xs:List V} (I:Inv X pins σ H s) (h:H p=some (.lst xs)) :
 ∃ (its:List Value) (n:Nat),Vals xs its/\s.heap.get? p=some { cls := .type "list", data := .seq its.toArray n }/\xs.length<=sizeLine:=by
 obtain ⟨z,its,n,r,e⟩:=I.hok p _ h
 exact ⟨its,n,r,e,z⟩
theorem Inv.lstUpd {pins:List (Addr × Obj)} {σ:St} {H:Hp} {s:Shared} {p:Addr} {xs ys:List V} {its its':List Value} {n n':Nat} {f:Obj->Obj} (I:Inv X pins σ H s) (h:H p=some (.lst xs))
 (ho:s.heap.get? p=some { cls := .type "list", data := .seq its.toArray n }) (hf:f { cls := .type "list", data := .seq its.toArray n } = { cls := .type "list", data := .seq its'.toArray n' }) (r:Vals ys its') (hz:ys.length<=sizeLine) (t:Nat) :
 Inv X pins σ (upd H p (.lst ys)) { s with heap:=s.heap.update p f,toks:=t }:=by
 have e:(s.heap.update p f).get? p=some { cls := .type "list", data := .seq its'.toArray n' }:=by
  rw [Heap.get?_update_self f ho (by rw [hf] <;> rfl),hf]
 refine I.write (x:=p) (e:=p) (by rw [h];trivial) (.inl rfl) (fun b u hb q=>(Heap.get?_update_other _ _ (Ne.symm hb)).trans q) ⟨_,e⟩ ?_
 exact ⟨hz,its',n',r,e⟩
noncomputable def zld:V->V->V->Hp->(Hp->Prop)->Prop:=fun o i v H Q=>∃ p xs k j,o = .ref p/\i = .int k/\H p=some (.lst xs)/\ixN xs.length k=some j/\Q (upd H p (.lst (xs.set j v)))
theorem zhl:PSet X zld:=by
 intro pins s σ H o i v ov iv u Q I ro ri rv h
 obtain ⟨p,xs,k,j,rfl,rfl,hp,hj,q⟩:=h
 cases ro
 obtain ⟨t,rfl⟩:=ri
 obtain ⟨its,n,r,ho,hz⟩:=I.lst hp
 obtain ⟨h1,h2,h3,h4⟩:=zpk hj
 have hl:=r.length
 have hn:=zev
 have I':Inv X pins σ (upd H p (.lst (xs.set j v))) { s with heap:=s.heap.update p (Obj.mapSeq (·.setIfInBounds j u)) } :=
  I.lstUpd hp ho (zqw its n j u) (r.set rv j) (by rw [List.length_set];exact hz) s.toks
 by_cases h0:0<=k
 ·have hk:k.toNat=j:=by
   rw [seqIndex_of h0 h4] at h1
   exact Option.some.inj h1
  exact PySem.W.ki_setAt ho h0 (by lia) (by rw [List.size_toArray,<- hl];exact h4) (by rw [hk];exact ⟨_,I',q⟩)
 ·have hk:(k+(its.toArray.size:Int)).toNat=j:=by
   rw [seqIndex_neg (by lia) h3] at h1
   rw [List.size_toArray,<- hl]
   exact Option.some.inj h1
  exact PySem.W.ki_setBack ho (by lia) (by rw [List.size_toArray,<- hl];exact h3) (by lia) (by rw [hk];exact ⟨_,I',q⟩)
theorem zmu (lo hi:Option Int) (n:Nat):(sliceBounds lo hi none n).1=((HT.sIx n 0 lo:Nat):Int)/\(sliceBounds lo hi none n).2.1=((HT.sIx n n hi:Nat):Int)/\(sliceBounds lo hi none n).2.2=1:=by
 refine ⟨?_,?_,rfl⟩
 ·cases lo with
  | none=>simp [sliceBounds,HT.sIx]
  | some i =>
    simp only [sliceBounds,HT.sIx,Option.getD_none,show (1:Int) > 0 by decide,if_true]
    by_cases h:i<0
    ·simp only [h,if_true] <;> lia
    ·simp only [h,if_false] <;> lia
 ·cases hi with
  | none=>simp [sliceBounds,HT.sIx]
  | some i =>
    simp only [sliceBounds,HT.sIx,Option.getD_none,show (1:Int) > 0 by decide,if_true]
    by_cases h:i<0
    ·simp only [h,if_true] <;> lia
    ·simp only [h,if_false] <;> lia
theorem zk7 (its:List Value) (lo hi:Option Int):slicePick its.toArray lo hi none=((its.drop (HT.sIx its.length 0 lo)).take (HT.sIx its.length its.length hi - HT.sIx its.length 0 lo)).toArray:=by
 obtain ⟨h1,h2,h3⟩:=zmu lo hi its.toArray.size
 unfold slicePick
 rw [h1,h2,h3]
 simp only [sliceRange_one,pick_run,List.size_toArray] <;> rfl
noncomputable def rSlL (K:PySem.W.Frag):V->Option Int->Option Int->Hp->VK->Prop:=fun x lo hi H Q=>∃ a xs,x = .ref a/\SqL K H a xs/\∀ p,H p=none->Q (.ref p) (upd H p (.lst (cutV xs lo hi)))
theorem sl_list:SlR X (rSlL X.K):=by
 intro pins s σ H x v vl vu lo hi sl Q I rx hs pl pu h
 obtain ⟨a,xs,rfl,hx,q⟩:=h
 cases rx
 obtain ⟨its,r,ht,hz⟩:=I.list hx
 have hlen:=r.length
 refine ⟨"list", _,slot_list_getitem.lookup,ht.isList.typeIs,?_⟩
 refine wpAny_getItem_list_slice ht.isList hs pl pu .none (by simp) ?_ (by rw [List.size_toArray] <;> lia)
 rw [zk7,<- hlen]
 refine ⟨.ref s.heap.objs.size,_,I.laid (t':=s.toks) (o := .lst (cutV xs lo hi)) (fun b ob q=>Heap.get?_push_of_some _ q) (Nat.le_refl _) ?_,rfl,q _ (I.hok.fresh (Nat.le_refl _))⟩
 exact ⟨Nat.le_trans (zhc xs lo hi) hz,_,0,(r.drop (HT.sIx xs.length 0 lo)).take (HT.sIx xs.length xs.length hi - HT.sIx xs.length 0 lo),Heap.get?_push_size _ rfl⟩
theorem zla:zb2 X (.type "tuple") (fun xs H Q=>∃ p ys,xs = [.ref p]/\((SqL X.K H p ys/\∀ l,H l=none->Q (.ref l) (upd H l (.tup ys)))\/(SqT X.K H p ys/\Q (.ref p) H))):=by
 intro pins s σ H xs us Q I r h
 obtain ⟨p,ys,rfl,h⟩:=h
 obtain ⟨u,rfl,rx⟩:=zlj r
 cases rx
 rcases h with ⟨hq,q⟩ | ⟨hq,q⟩
 ·obtain ⟨its,r',pl,hz⟩:=I.list hq
  have hlen:=r'.length
  refine call_tuple_list pl.isList (fun h' kp=>?_) (by simp only [List.size_toArray] <;> lia)
  have I1:Inv X pins σ H { s with heap:=h' }:=I.kept (t':=s.toks) kp
  have I2:Inv X pins σ (upd H h'.objs.size (.tup ys)) { s with heap:=h'.push { cls := .type "tuple", data := .seq its.toArray } } :=
   I1.laid (t':=s.toks) (fun b o e=>Heap.get?_push_of_some _ e) (Nat.le_refl _) (show ObjOk X.prog X.w _ _ _ (.tup ys) from ⟨hz,its,r',IsTup.new _ _⟩)
  exact ⟨.ref h'.objs.size,_,I2,rfl,q _ (I1.hok.fresh (Nat.le_refl _))⟩
 ·obtain ⟨its,r',pl,hz⟩:=I.tuple hq
  exact call_tuple_same pl ⟨.ref p,H,I,rfl,q⟩
noncomputable def tyV (K:PySem.W.Frag) (T:String) (x:V) (H:Hp):Prop:=match x with
 | .str _=>T = "str"
 | .int _=>T = "int"
 | .ref p=>(T = "list" /\ ∃ xs,SqL K H p xs)\/(T = "tuple" /\ ∃ o,K.lookup p=some o/\o.cls = .type "tuple" /\ o.dict=none) \/
  (T = "dict" /\ ((∃ kvs,H p=some (.dK kvs))\/∃ kvs,H p=some (.dT kvs)))\/(T = "set" /\ ∃ S n,H p=some (.set S n))
 | _=>False
theorem zsn {pins:List (Addr × Obj)} {σ:St} {H:Hp} {s:Shared} {T:String} {x:V} {v:Value} (I:Inv X pins σ H s) (r:RelV x v) (ty:tyV X.K T x H) :
 s.TypeIs v T/\∀ a,v = .ref a->∃ ob,s.heap.get? a=some ob/\ob.dict=none:=by
 cases x with
 | str z =>
   obtain ⟨t,rfl⟩:=r
   cases (show T = "str" from ty)
   exact ⟨typeIs_str s z t,fun _ e=>nomatch e⟩
 | int i =>
   obtain ⟨t,rfl⟩:=r
   cases (show T = "int" from ty)
   exact ⟨typeIs_int s i t,fun _ e=>nomatch e⟩
 | ref p =>
   cases r
   rcases ty with ⟨rfl,xs,hq⟩ | ⟨rfl,o,hk,hc,hd⟩ | ⟨rfl,hk⟩ | ⟨rfl,S,n,hk⟩
   ·obtain ⟨its,_,pl,_⟩:=I.list hq
    refine ⟨pl.isList.typeIs,fun a e=>?_⟩
    cases e
    obtain ⟨o,n,e,c,hd,_⟩:=pl
    exact ⟨o,e,hd⟩
   ·refine ⟨⟨o,I.kIn p o hk,hc⟩,fun a e=>?_⟩
    cases e
    exact ⟨o,I.kIn _ o hk,hd⟩
   ·have z:∃ o,s.heap.get? p=some o/\o.ExactDict:=by
     rcases hk with ⟨kvs,hk⟩ | ⟨kvs,hk⟩
     ·obtain ⟨_,_,_,_,o,_,_,e,ex,_⟩:=I.hok p _ hk
      exact ⟨o,e,ex⟩
     ·obtain ⟨_,_,_,_,o,_,_,e,ex,_⟩:=I.hok p _ hk
      exact ⟨o,e,ex⟩
    obtain ⟨o,e,ex⟩:=z
    refine ⟨⟨o,e,ex.1⟩,fun a e2=>?_⟩
    cases e2
    exact ⟨o,e,ex.2.1⟩
   ·obtain ⟨o,_,_,_,e,ex,_⟩:=I.hok p _ hk
    refine ⟨⟨o,e,ex.1⟩,fun a e2=>?_⟩
    cases e2
    exact ⟨o,e,ex.2.1⟩
 | _=>exact False.elim ty
noncomputable def tBM0 (K:PySem.W.Frag) (T:String) (r:V->List V->Hp->VK->Prop) (to:TE):TE:=fun σ H Q=>to σ H fun x H1=>tyV K T x H1/\r x [] H1 Q
noncomputable def tBM (K:PySem.W.Frag) (T:String) (r:V->List V->Hp->VK->Prop) (to:TE) (t:TA):TE:=fun σ H Q=>to σ H fun x H1=>tyV K T x H1/\t σ H1 fun xs H2=>r x xs H2 Q
variable {o e : Expr} {es : List Expr} {to : TE} {t : TA} {name : Str} {apos cpos : Pos} {T id : String} {r : V → List V → Hp → VK → Prop}
theorem z0b (pa:PlainAttrs T) (slot:Slot T name id) (hty:typeOf (.builtin id)=pure (.type "method_descriptor")) (hm:MtR X id r) (ho:PE X o to)
 (hbase:attributeBase o name X.env (eval o X.env)=eval o X.env:=by rfl) (hline:(apos.endLine == cpos.line)=true:=by rfl):PE X (.Call (.Attribute o name apos) [] [] cpos) (tBM0 X.K T r to):=by
 intro pins s σ H Q I h
 refine wpAny_Call_method0_late hbase hline (thn (ho pins s σ H _ I h) fun v s1 ⟨x,H1,I1,r1,ty,q1⟩=>?_)
 obtain ⟨h1,h2⟩:=zsn I1 r1 ty
 exact ⟨T,id,pa,slot,hty,h1,h2,Calls.callWith_builtin rfl (PySem.evalArgs_none (hm pins s1 σ H1 x [] v [] Q I1 r1 .nil q1))⟩
theorem ze9 (pa:PlainAttrs T) (slot:Slot T name id) (hty:typeOf (.builtin id)=pure (.type "method_descriptor")) (hm:MtR X id r) (ho:PE X o to) (ha:PA X (e::es) t)
 (hbase:attributeBase o name X.env (eval o X.env)=eval o X.env:=by rfl)
 (hfew:((backTo cpos (starEach (e::es) X.env)).all (fun x=>!x.1) && (backToKw cpos (keywordEach [] X.env)).all (fun x=>x.1.isSome)
  && decide ((e::es).length+([]:List Keyword).length+(if ([]:List Keyword).isEmpty then 0 else 1)<30))=true:=by rfl)
 (hline:(apos.endLine == cpos.line)=true:=by rfl) (hs:starEach (e::es) X.env=(false,eval e X.env)::starEach es X.env:=by rfl) (hplain:(backTo cpos (starEach es X.env)).any (·.1)=false:=by rfl) :
 PE X (.Call (.Attribute o name apos) (e::es) [] cpos) (tBM X.K T r to t):=by
 intro pins s σ H Q I h
 refine wpAny_Call_method_late hbase hfew hline rfl (thn (ho pins s σ H _ I h) fun v s1 ⟨x,H1,I1,r1,ty,q1⟩=>?_)
 obtain ⟨h1,h2⟩:=zsn I1 r1 ty
 refine ⟨T,id,pa,slot,hty,h1,h2,?_⟩
 have hA:=ha cpos pins s1 σ H1 _ I1 q1
 rw [hs] at hA ⊢
 refine Calls.callWith_builtin (by show (false || (backTo cpos (starEach es X.env)).any (·.1))=false;rw [hplain] <;> rfl) (Calls.evalArgs_plain ?_)
 exact thn hA fun us s2 ⟨vs,H2,I2,r2,q2⟩=>hm pins s2 σ H2 x vs v us Q I2 r1 r2 q2
/- xs.append(e),list.index on a module's tuple .. are MtR facts of 06m -/
end
end L2
namespace L2
open PySem PySem.Spec PyProof.Rows
noncomputable def MtM (X:Cx) (id:String) (r:V->List V->Hp->VK->Prop):Prop :=
 ∀ (pins:List (Addr × Obj)) (s:Shared) (σ:St) (H:Hp) (x:V) (xs:List V) (v:Value) (us:List Value) (Q:VK),Inv X pins σ H s->RelV x v->Vals xs us->r x xs H Q ->
   wpAny (model X.prog X.w) X.A (call (.builtin id) (v::us)) (EP X pins σ Q) X.xe s
theorem Vals.one:∀ {x:V} {us:List Value},Vals [x] us->∃ u,us = [u]/\RelV x u
 | _,_,h=>by
   cases h with
   | cons r t=>cases t;exact ⟨_,rfl,r⟩
theorem Vals.two:∀ {x y:V} {us:List Value},Vals [x,y] us->∃ u v,us = [u,v]/\RelV x u/\RelV y v
 | _,_,_,h=>by
   cases h with
   | cons r t =>
     cases t with
     | cons q t=>cases t;exact ⟨_,_,rfl,r,q⟩
theorem Vals.zero:∀ {us:List Value},Vals [] us->us = []
 | _,.nil=>rfl
theorem Vals.dropLast {xs:List V} {us:List Value} (h:Vals xs us):Vals xs.dropLast us.dropLast:=by
 induction h with
 | nil=>exact .nil
 | cons r t ih =>
   cases t with
   | nil=>exact .nil
   | cons q t'=>exact .cons r ih
theorem Vals.eraseIdx:∀ {xs:List V} {us:List Value} (i:Nat),Vals xs us->Vals (xs.eraseIdx i) (us.eraseIdx i)
 | _,_,_,.nil => .nil
 | _,_,0,.cons _ t=>t
 | _,_,i+1,.cons r t => .cons r (Vals.eraseIdx i t)
theorem Vals.rep {xs:List V} {us:List Value} (h:Vals xs us):∀ k:Nat,Vals (List.replicate k xs).flatten (List.replicate k us).flatten
 | 0 => .nil
 | k+1=>by
   rw [List.replicate_succ,List.replicate_succ,List.flatten_cons,List.flatten_cons]
   exact Vals.append h (Vals.rep h k)
theorem zqo {α:Type} (l:List α):l.eraseIdx (l.length - 1)=l.dropLast:=by
 induction l with
 | nil=>rfl
 | cons a r ih =>
   cases r with
   | nil=>rfl
   | cons b r =>
     have e:(a::b::r).length - 1=((b::r).length - 1)+1:=by
      have h1:(a::b::r).length=r.length+2:=rfl
      have h2:(b::r).length=r.length+1:=rfl
      lia
     rw [e,List.eraseIdx_cons_succ,ih]
     all_goals rfl
theorem zkg {α:Type}:∀ (l:List α) (i:Nat),(l.eraseIdx i).length<=l.length
 | [],_=>Nat.le_refl _
 | _::_,0=>Nat.le_succ _
 | _::r,i+1=>Nat.succ_le_succ (zkg r i)
theorem zf5 (its:List Value):∀ (k:Nat) (acc:List Value),
 List.foldl (fun x1 x2=>x1++x2) acc.toArray (List.replicate k its.toArray)=(acc++(List.replicate k its).flatten).toArray
 | 0,acc=>by simp
 | k+1,acc=>by
   have e:acc.toArray++its.toArray=(acc++its).toArray:=by simp
   have e2:(acc++its)++(List.replicate k its).flatten=acc++(List.replicate (k+1) its).flatten:=by
    rw [List.replicate_succ,List.flatten_cons,List.append_assoc]
   rw [<- e2,<- zf5 its k (acc++its),<- e,List.replicate_succ,List.foldl_cons]
section
variable {X : Cx} {pins : List (Addr × Obj)} {σ : St} {H : Hp} {s : Shared} {l b : Addr} {xs ys zs : List V}
theorem Inv.lset {its its':List Value} {n:Nat} {f:Array Value->Array Value} {t':Nat} (I:Inv X pins σ H s) (hH:H l=some (.lst xs))
 (e:s.heap.get? l=some { cls := .type "list", data := .seq its.toArray n }) (hf:f its.toArray=its'.toArray) (hv:Vals ys its') (hz:ys.length<=sizeLine) :
 Inv X pins σ (upd H l (.lst ys)) { s with heap:=s.heap.update l (Obj.mapSeq f),toks:=t' }:=by
 have q:=PySem.IsL.update e f
 rw [hf] at q
 refine I.write (x:=l) (e:=l) (by rw [hH];exact trivial) (.inl rfl) (fun b' u hb hu=>(Heap.get?_update_other s.heap (Obj.mapSeq f) (Ne.symm hb)).trans hu) ⟨_,q⟩ ?_
 exact ⟨hz,its',_,hv,q⟩
theorem Inv.lnew {its:List Value} {t':Nat} (I:Inv X pins σ H s) (hv:Vals ys its) (hz:ys.length<=sizeLine) :
 Inv X pins σ (upd H s.heap.objs.size (.lst ys)) { s with heap:=s.heap.push { cls := .type "list", data := .seq its.toArray },toks:=t' } :=
 I.laid (fun _ _ q=>Heap.get?_push_of_some _ q) (Nat.le_refl _) ⟨hz,its,0,hv,Heap.get?_push_size _ rfl⟩
theorem Inv.fresh (I:Inv X pins σ H s):H s.heap.objs.size=none:=I.hok.fresh (Nat.le_refl _)
theorem Inv.lstM (I:Inv X pins σ H s) (hH:H l=some (.lst xs)):xs.length<=sizeLine/\∃ (its:List Value) (n:Nat),Vals xs its/\xs.length=its.length/\s.heap.get? l=some { cls := .type "list", data := .seq its.toArray n }:=by
 obtain ⟨z,its,n,r,e⟩:=I.hok l _ hH
 exact ⟨z,its,n,r,r.length,e⟩
theorem zly {n:Nat} (h:n<=sizeLine):Builtin.List.listTooLong n=false:=by
 unfold Builtin.List.listTooLong
 exact decide_eq_false (by lia)
end
section
variable {X : Cx}
noncomputable def ze2:V->List V->Hp->VK->Prop:=fun x vs H Q=>∃ l xs y,x = .ref l/\vs = [y]/\H l=some (.lst xs)/\xs.length<sizeLine/\Q .non (upd H l (.lst (xs ++ [y])))
theorem zkj:MtM X "list.append" ze2:=by
 intro pins s σ H x vs v us Q I rx rv h
 obtain ⟨l,xs,y,rfl,rfl,hH,hz,q⟩:=h
 cases rx
 obtain ⟨u,rfl,ru⟩:=rv.one
 obtain ⟨z,its,n,r,hl,e⟩:=I.lstM hH
 refine call_meets F.slot_list_append ⟨_,e,rfl⟩ F.entry_list_append (F.args_list_append_2 _ _) (PySem.list_append l its.toArray n u (by rw [List.size_toArray];lia)) ⟨e,?_⟩
 refine ⟨.non,_,I.lset (its':=its ++ [u]) hH e (by simp) (r.append (.cons ru .nil)) ?_,rfl,q⟩
 rw [List.length_append,List.length_singleton]
 lia
noncomputable def zgm:V->List V->Hp->VK->Prop:=fun x vs H Q=>∃ l b xs zs,x = .ref l/\vs = [.ref b]/\H l=some (.lst xs)/\H b=some (.lst zs)/\xs.length+zs.length<=sizeLine/\Q .non (upd H l (.lst (xs++zs)))
theorem zsq:MtM X "list.extend" zgm:=by
 intro pins s σ H x vs v us Q I rx rv h
 obtain ⟨l,b,xs,zs,rfl,rfl,hH,hB,hz,q⟩:=h
 cases rx
 obtain ⟨u,rfl,ru⟩:=rv.one
 cases ru
 obtain ⟨z,its,n,r,hl,e⟩:=I.lstM hH
 obtain ⟨z2,its2,n2,r2,hl2,e2⟩:=I.lstM hB
 have hsz:its.toArray.size+its2.toArray.size<=sizeLine:=by rw [List.size_toArray,List.size_toArray];lia
 have hlong:¬ (!its.toArray.isEmpty && Builtin.List.listTooLong (its.toArray.size+its2.toArray.size))=true:=by
  rw [zly hsz,Bool.and_false]
  exact Bool.false_ne_true
 refine call_meets F.slot_list_extend ⟨_,e,rfl⟩ F.entry_list_extend (F.args_list_extend_2 _ _)
  (AutoSeq1.list_extend_list_list_0 l its.toArray n b its2.toArray n2 hlong (by rw [List.size_toArray];lia) (by lia)) ⟨e,e2,?_⟩
 refine ⟨.non,_,I.lset (its':=its++its2) hH e (by simp) (r.append r2) ?_,rfl,q⟩
 rw [List.length_append]
 lia
noncomputable def rPop:V->List V->Hp->VK->Prop:=fun x vs H Q=>∃ l xs y,x = .ref l/\vs = []/\H l=some (.lst xs)/\xs[xs.length - 1]? = some y/\Q y (upd H l (.lst xs.dropLast))
theorem z1d:MtM X "list.pop" rPop:=by
 intro pins s σ H x vs v us Q I rx rv h
 obtain ⟨l,xs,y,rfl,rfl,hH,hy,q⟩:=h
 cases rx
 have hus:=rv.zero
 subst hus
 obtain ⟨z,its,n,r,hl,e⟩:=I.lstM hH
 obtain ⟨u,hu,ru⟩:=r.get hy
 have hy':its.toArray[its.toArray.size - 1]? = some u:=by
  show its.toArray[its.length - 1]? = some u
  rw [<- Array.getElem?_toList,<- hl]
  exact hu
 refine call_meets F.slot_list_pop ⟨_,e,rfl⟩ F.entry_list_pop (F.args_list_pop_1 _) (MeetsSeq.list_pop_last l its.toArray n u hy' (by rw [List.size_toArray];lia)) ⟨e,?_⟩
 refine ⟨y,_,I.lset (its':=its.dropLast) hH e ?_ r.dropLast ?_,ru,q⟩
 ·show its.toArray.eraseIdxIfInBounds (its.toArray.size - 1)=its.dropLast.toArray
  rw [List.size_toArray,List.eraseIdxIfInBounds_toArray,zqo]
 ·rw [List.length_dropLast]
  lia
noncomputable def zgi:V->List V->Hp->VK->Prop:=fun x vs H Q=>∃ l xs i k y,x = .ref l/\vs = [.int i]/\H l=some (.lst xs)/\-(2 ^ 63)<=i/\i<2 ^ 63/\seqIndex? i xs.length=some k/\xs[k]? = some y/\Q y (upd H l (.lst (xs.eraseIdx k)))
theorem zwe:MtM X "list.pop" zgi:=by
 intro pins s σ H x vs v us Q I rx rv h
 obtain ⟨l,xs,i,k,y,rfl,rfl,hH,h1,h2,hk,hy,q⟩:=h
 cases rx
 obtain ⟨u,rfl,ru⟩:=rv.one
 obtain ⟨t,rfl⟩:=ru
 obtain ⟨z,its,n,r,hl,e⟩:=I.lstM hH
 obtain ⟨w,hw,rw'⟩:=r.get hy
 refine call_meets F.slot_list_pop ⟨_,e,rfl⟩ F.entry_list_pop (F.args_list_pop_2 _ _)
  (MeetsSeq.list_pop_at l its.toArray n i t k w (fitsIndex_both h1 h2) (by rw [List.size_toArray,<- hl];exact hk) (by rw [<- Array.getElem?_toList];exact hw) (by rw [List.size_toArray];lia)) ⟨e,?_⟩
 refine ⟨y,_,I.lset (its':=its.eraseIdx k) hH e ?_ (r.eraseIdx k) ?_,rw',q⟩
 ·show its.toArray.eraseIdxIfInBounds k=(its.eraseIdx k).toArray
  rw [List.eraseIdxIfInBounds_toArray]
 ·have:=zkg xs k
  lia
noncomputable def rCat:R2:=fun x y H Q=>∃ l b xs zs,x = .ref l/\y = .ref b/\H l=some (.lst xs)/\H b=some (.lst zs)/\xs.length+zs.length<=sizeLine/\∀ p,H p=none->Q (.ref p) (upd H p (.lst (xs++zs)))
theorem op_cat:OpR X (binaryOp .Add) rCat:=by
 intro pins s σ H x y v u Q I rx ry h
 obtain ⟨l,b,xs,zs,rfl,rfl,hH,hB,hz,q⟩:=h
 cases rx
 cases ry
 obtain ⟨z,its,n,r,hl,e⟩:=I.lstM hH
 obtain ⟨z2,its2,n2,r2,hl2,e2⟩:=I.lstM hB
 refine PySem.P.add_list e e2 ?_ (by rw [List.size_toArray,List.size_toArray];lia)
 have ea:its.toArray++its2.toArray=(its++its2).toArray:=by simp
 rw [ea]
 exact ⟨.ref _,_,I.lnew (t':=s.toks) (r.append r2) (by rw [List.length_append];lia),rfl,q _ I.fresh⟩
noncomputable def rRep:R2:=fun x y H Q=>∃ l k xs,x = .ref l/\y = .int k/\H l=some (.lst xs)/\-(2 ^ 63)<=k/\k<2 ^ 63/\xs.length * k.toNat<=sizeLine /\
 ∀ p,H p=none->Q (.ref p) (upd H p (.lst (List.replicate k.toNat xs).flatten))
theorem ze0 {α:Type} (xs:List α) (k:Nat):(List.replicate k xs).flatten.length=k * xs.length:=by
 induction k with
 | zero=>simp
 | succ k ih=>rw [List.replicate_succ,List.flatten_cons,List.length_append,ih,Nat.succ_mul,Nat.add_comm]
theorem op_rep:OpR X (binaryOp .Mult) rRep:=by
 intro pins s σ H x y v u Q I rx ry h
 obtain ⟨l,k,xs,rfl,rfl,hH,h1,h2,hz,q⟩:=h
 cases rx
 obtain ⟨t,rfl⟩:=ry
 obtain ⟨z,its,n,r,hl,e⟩:=I.lstM hH
 have hlen:its.toArray.size * k.toNat<=sizeLine:=by rw [List.size_toArray,<- hl];exact hz
 have hcap:¬ its.toArray.size * k.toNat > (2 ^ 63 - 1) / 8:=by
  have:(sizeLine:Nat)<=(2 ^ 63 - 1) / 8:=by decide
  lia
 have hfit:¬ (!Builtin.List.listFitsIndex k)=true:=by
  rw [fitsIndex_both h1 h2]
  exact Bool.false_ne_true
 have hlong:¬ Builtin.List.listTooLong (its.toArray.size * k.toNat)=true:=by
  rw [zly hlen]
  exact Bool.false_ne_true
 have hnew:List.foldl (fun x1 x2=>x1++x2) #[] (List.replicate (if its.toArray.isEmpty=true then 0 else k.toNat) its.toArray)=(List.replicate k.toNat its).flatten.toArray:=by
  have f0:∀ m:Nat,List.foldl (fun x1 x2=>x1++x2) #[] (List.replicate m its.toArray)=(List.replicate m its).flatten.toArray:=fun m=>by
   have:=zf5 its m []
   rw [List.nil_append] at this
   exact this
  rw [f0]
  cases its with
  | nil=>simp
  | cons a r'=>rw [if_neg (by simp)]
 refine wpAny_binaryOp_repeat_ref (T := "list") (U := "int") (by decide) ⟨_,e,rfl⟩ (fun s'=>typeIs_int s' k t) noFill_list_mul F.fills_int_mul F.slot_int_rmul repeat_list F.slot_int_index.lookup
  (call_meets F.slot_int_rmul (typeIs_int s k t) F.entry_int_rmul (F.args_int_rmul_2 _ _) (int___rmul___int_list k t l its.toArray n)
   ⟨e,rfl,⟨_,e,rfl⟩,call_meets F.slot_list_mul ⟨_,e,rfl⟩ F.entry_list_mul (F.args_list_mul_2 _ _) (AutoListH.list___mul___list_int_3 l its.toArray n k t hfit hcap hlong) ⟨e,?_⟩⟩)
 rw [hnew]
 exact ⟨.ref _,_,I.lnew (t':=s.toks) (r.rep k.toNat) (by rw [ze0,Nat.mul_comm];exact hz),rfl,q _ I.fresh⟩
end
end L2
namespace L2
open PySem PySem.Spec PyProof.Rows
section
variable {X : Cx} {pins : List (Addr × Obj)} {σ : St} {H : Hp} {s : Shared} {a : Addr} {y v : V} {u r : Value} {o : Option V} {A : Around} {E : Value → Shared → Prop}
theorem Inv.big (I:Inv X pins σ H s):sysModules<s.heap.objs.size:=by
 have h:mainGlobals<s.heap.objs.size:=(I.mod.glob.keeps I.bk).lt
 exact Nat.lt_trans (by decide) h
theorem zoo {h':Heap} {t':Nat} {ob:HO} (I:Inv X pins σ H s) (mu:Mut (H a)) (hs:Heap.SameBut a s.heap h') (he:∃ q,h'.get? a=some q) (new:ObjOk X.prog X.w (upd H a ob) h' a ob) :
 Inv X pins σ (upd H a ob) { s with heap:=h',toks:=t' } :=
 I.write (x:=a) (e:=a) mu (.inl rfl) (fun b q hb z=>(hs.2 b hb).trans z) he new
end
end L2
namespace Att
open PySem PySem.W PySem.Calls PyProof.Rows
theorem zi0 {P:Params} {h:Heap}:∀ (ns:List Int) (vs:List Value),WellAll P h vs (ns.map WData.int)->IntsAre vs ns:=by
 intro ns
 induction ns with
 | nil =>
   intro vs w
   rw [List.map_nil] at w
   cases w
   exact .nil
 | cons n ns ih =>
   intro vs w
   rw [List.map_cons] at w
   cases w with
   | cons a b =>
     cases a
     exact .cons _ _ (ih _ b)
theorem zuc {l:OpenLaw} {n:Nat} (hn:l.most=some n) {P:Params} {h:Heap} {args:List WData} {vals:List Value}
 (hpre:l.row.toRowW.claim.pre args=true) (hwl:WellAll P h vals args) :
 ∃ a vs ns,vals = [Value.ref a]/\args = [WData.list (ns.map WData.int)]/\h.get? a=some { cls := .type "list", data := .seq vs.toArray }/\IntsAre vs ns/\ns.length<=n:=by
 have hsh:WShape.hasAll [] args [.list .int]=true:=(pre_splitW hpre).1
 have hc:l.pre.holds [] { args:=args }=true:=(pre_splitW hpre).2
 obtain ⟨d,r,rfl,h1,h2⟩:=hasAllW_cons hsh
 obtain rfl:=hasAllW_nil h2
 obtain ⟨xs,rfl,h3⟩:=hasW_list h1
 obtain ⟨ns,rfl⟩:=items_int h3
 have hlen:ns.length<=n:=by
  unfold OpenLaw.pre at hc
  have h4:(WTm.not (.lt (.lit (.int (n:Int))) (.len (.arg 0)))).holds [] { args := [.list (ns.map .int)] }=true:=by
   have h4:=(holds_andW hc).1
   rw [hn] at h4
   exact h4
  have h5:=condW_of h4 (w_not (w_lt w_lit (w_len_list (w_arg rfl))))
  rw [List.length_map] at h5
  refine Nat.le_of_not_lt fun q=>?_
  have q':(n:Int)<((ns.length:Nat):Int):=by lia
  first
   | (rw [decide_eq_true q'] at h5;exact absurd h5 (by decide))
   | (simp at h5;lia)
 cases hwl with
 | cons w1 w2 =>
   cases w2
   cases w1 with
   | list ho hall=>exact ⟨_,_,ns,rfl,rfl,ho,zi0 ns _ hall,hlen⟩
theorem ztp (l:OpenLaw) (args:List WData):l.row.toRowW.claim.post args (.bool true) args=true :=
 postW_of (r:=l.row.toRowW) (X:=(true == true))
  (show WShape.has [] (.bool true) .bool=true by first | rfl | decide | simp [WShape.has,WShape.arms,WShape.armsAll])
  (show (WTm.eq .res (.lit (.bool true))).value [] { args:=args,res:=some (.bool true),after:=args }=some (.bool (true == true)) from w_eq_bool (w_res rfl) w_lit) rfl
theorem attach_call {l:OpenLaw} {n:Nat} {q:Program} {loose:List Str} {XP:(Str->Option Value)->Heap->Prop} {YP:World->Heap->Prop} {d:DefRec}
 (hn:l.most=some n) (hdf:d.params.defaults = [])
 (call:∀ (w:World) (s₀ s₁:Shared) (mg mb:Str->Option Value) (fa:Addr) (o:Obj) (pm cd doc:Value) (a:Addr) (vs:List Value) (ns:List Int),
  Ground q loose [] XP w s₀ mg mb s₁.heap->YP w s₁.heap ->
  s₁.heap.get? fa=some o->o.data = .func (docDef d.name d.params d.body d.scope pm cd doc)->s₁.heap.CodeRec cd d.name->mg d.name=some (.ref fa) ->
  s₁.heap.get? a=some { cls := .type "list", data := .seq vs.toArray }->IntsAre vs ns->ns.length<=n->s₁.gens = #[] ->
  codeAny (model l.prog w) callerA (.call (.ref fa) ⟨[.ref a],[]⟩) (fun r s'=>r = .ok (.ret (.bool true))/\OldK s₁.heap s'.heap/\s'.os=s₁.os/\AllBare s'.gens) s₁) :
 WalkO q loose XP YP l.row.toRowW d [] (fun f vs=>PySem.call f vs):=by
 intro w s₀ s₁ mg mb G Y fa o pm cd doc dV kV ho hd hcd hD hmg hg args vals as hpre hlay hrd hwl hlo
 obtain rfl:dV = .none:=Dflts.none hD hdf
 obtain rfl:kV = .none:=Dflts.noKw hD
 obtain ⟨a,vs,ns,rfl,rfl,hobj,hints,hlen⟩:=zuc hn hpre hwl
 refine enter_call (codeAny_mono (call w s₀ s₁ mg mb fa o pm cd doc a vs ns G Y ho (fd_plain hd) hcd hmg hobj hints hlen hg) fun r s' hq=>?_)
 obtain ⟨rfl,h2,h3,h4⟩:=hq
 exact ⟨.inl ⟨.bool true,.bool true,[],rfl,fun _=>rfl,.bool true,ztp l _,fun _=>⟨List.Pairwise.nil,fun _ hm=>(nomatch hm)⟩⟩,h2,h3,h4⟩
end Att
namespace L2
open PySem PySem.Spec PyProof.Rows
theorem zkq:∀ {vs:List Value} {ns:List Int},IntsAre vs ns->Vals (ns.map V.int) vs
 | _,_,.nil => .nil
 | _,_,.cons n t h => .cons ⟨t,rfl⟩ (zkq h)
noncomputable def Only (H:Hp):Prop:=∀ b,H b=none\/∃ o xs,H b=some (.frz o (.lst xs))
theorem zu8 {P:Program} {w:World} {K:PySem.W.Frag} {mg mb:Str->Option Value} {CX:CXT} {k:Nat} {fa a:Addr} {fd:FuncData} {x:Str} {sp:Sp} {s₁:Shared} {vs:List Value} {ns:List Int}
 (KX:K.In s₁.heap) (hns:s₁.heap.Ns mainGlobals mg) (hb:s₁.heap.Ns builtinsNs mb) (hbb:∀ x:Str,x ≠ "__name__" -> mb x=bootBuiltins x) (hlim:s₁.heap.NoLimit) (hg:s₁.gens = #[])
 (ha:s₁.heap.get? a=some { cls := .type "list", data := .seq vs.toArray }) (hi:IntsAre vs ns) (hl:ns.length<=sizeLine) (hr:Room k callerA)
 (F:∀ base:Heap,K.In base->base.Ns mainGlobals mg->FnOk P w K mg base CX k fa fd [x] sp) (hbind:∀ (s:Shared) (u:Value),BindsTo s fd ⟨[u],[]⟩ [(x,u)])
 (hsp:∀ H:Hp,Only H->SqL K H a (ns.map V.int)->sp [.ref a] H (fun v _=>v = .bl true) fun _ _ _=>False)
 (hCX:∀ H e s',CX [] H s₁ (fun _ _ _=>False) e s'->False) :
 codeAny (model P w) callerA (.call (.ref fa) ⟨[.ref a],[]⟩) (fun r s'=>r = .ok (.ret (.bool true))/\OldK s₁.heap s'.heap/\s'.os=s₁.os/\AllBare s'.gens) s₁:=by
 have rv:=zkq hi
 have lenV:=hi.length
 -- from an abstract heap in which nothing but the script may be tracked
 have core:∀ H:Hp,Only H->SqL K H a (ns.map V.int)->HOk P w H s₁.heap->(∀ b,H b ≠ none->b=a)->(H a ≠ none->K.lookup a=none) ->
  codeAny (model P w) callerA (.call (.ref fa) ⟨[.ref a],[]⟩) (fun r s'=>r = .ok (.ret (.bool true))/\OldK s₁.heap s'.heap/\s'.os=s₁.os/\AllBare s'.gens) s₁:=by
  intro H hO hS hok hA hK
  have base_of:∀ {b:Addr} {o:Obj},s₁.heap.get? b=some o->H b=none->(hidT s₁.heap H).get? b=some o:=fun e n=>zve e n
  have noA:∀ {b:Addr} {o:Obj} {es:Array DictEntry} {ep:Nat},s₁.heap.get? b=some o->o.data = .dict es ep->H b=none:=fun {b o es ep} e d=>by
   cases q:H b with
   | none=>rfl
   | some u =>
     have e':b=a:=hA b (by rw [q];simp)
     subst e'
     rw [ha] at e;cases e
     have d':Data.seq vs.toArray _=Data.dict es ep:=d
     cases d'
  have nsK:∀ {b:Addr} {m:Str->Option Value},s₁.heap.Ns b m->(hidT s₁.heap H).Ns b m:=fun {b m} ⟨o,es,ep,e,d,r⟩=>⟨o,es,ep,base_of e (noA e d),d,r⟩
  have hKb:K.In (hidT s₁.heap H):=fun b o e=>base_of (KX b o e) (by
   cases q:H b with
   | none=>rfl
   | some u =>
     have e':b=a:=hA b (by rw [q];simp)
     subst e'
     rw [hK (by rw [q];simp)] at e;cases e)
  have hM:Mod K mg (hidT s₁.heap H):=⟨hKb,nsK hns,⟨mb,nsK hb,hbb⟩,let ⟨mc,h1,h2⟩:=hlim; ⟨mc,nsK h1,h2⟩⟩
  have e0:Env0 P w K mg (hidT s₁.heap H) callerA [] s₁ H:=⟨rfl,hM,fun b o e=>zyl e,Nat.le_of_eq (ztw _ _),trivial,fun b hb=>absurd (show b ∈ ([]:List Addr) from hb) (by simp),hok,.of_eq hg⟩
  refine codeAny_mono ((F _ hKb (nsK hns)).run callerA [] s₁ H ⟨[.ref a],[]⟩ [.ref a] [.ref a] _ _ hr e0 (hbind s₁ (.ref a)) (.cons rfl .nil) (hsp H hO hS)) fun r s' h=>?_
  cases r with
  | error e=>exact (hCX H e s' h).elim
  | ok fl =>
    cases fl with
    | next=>exact False.elim h
    | brk=>exact False.elim h
    | cont=>exact False.elim h
    | ret u =>
      obtain ⟨v,H',os,bare,un,hok',r',q⟩:=h
      have q':v = .bl true:=q
      subst q'
      obtain rfl:u=Value.bool true:=r'
      refine ⟨rfl,OldK.of_keep fun b o e=>?_,os,bare⟩
      cases q:H b with
      | none=>exact un.keep b o e q (by intro z;exact absurd (show b ∈ ([]:List Addr) from z) (by simp)) (by simp)
      | some u =>
        rcases hO b with z | ⟨ob,xs,z⟩
        ·rw [q] at z;cases z
        ·have z2:=un.frzs b ob _ z
         obtain ⟨e1,_⟩:=hok b _ z
         obtain ⟨e2,_⟩:=hok' b _ z2
         rw [e] at e1;cases e1
         exact e2
 cases hk:K.lookup a with
 | some o =>
   -- the script is one of the module's own objects
   have e:=KX a o hk
   rw [ha] at e
   cases e
   refine core (fun _=>none) (fun _ => .inl rfl) (.inr ⟨_,vs.toArray,_,hk,rfl,rfl,rfl,by rw [List.size_toArray,lenV];exact hl,by simpa using rv⟩) (fun b u z=>by have z':(none:Option HO)=some u:=z;cases z') (fun b z=>absurd rfl z) fun z=>absurd rfl z
 | none =>
   refine core (fun b=>if b=a then some (.frz { cls := .type "list", data := .seq vs.toArray } (.lst (ns.map V.int))) else none) (fun b=>?_) (.inl (.inr ⟨{ cls := .type "list", data := .seq vs.toArray },if_pos rfl⟩)) (fun b u z=>?_) (fun b z=>?_) fun _=>hk
   ·by_cases hb:b=a
    ·exact .inr ⟨_,_,if_pos hb⟩
    ·exact .inl (if_neg hb)
   ·by_cases hb:b=a
    ·have z':=(if_pos hb).symm.trans z
     cases z'
     subst hb
     exact ⟨ha,by rw [List.length_map];exact hl,vs,_,rv,ha⟩
    ·have z':=(if_neg hb).symm.trans z
     cases z'
   ·by_cases hb:b=a
    ·exact hb
    ·exact absurd (if_neg hb) z
end L2
namespace L2
open PySem PySem.Spec PyProof.Rows
theorem walk_of {l:PySem.W.OpenLaw} {n k:Nat} {q:Program} {loose:List Str} {XP:(Str->Option Value)->Heap->Prop} {YP:World->Heap->Prop} {d:DefRec} {K:Params->PySem.W.Frag} {CX:World->CXT} {sp:World->Sp} {x:Str}
 (hn:l.most=some n) (hn2:n<=sizeLine) (hdf:d.params.defaults = []) (hr:Room k callerA)
 (hY:∀ (w:World) (h:Heap),YP w h->(K w.params).In h)
 (F:∀ (w:World) (mg:Str->Option Value) (fa:Addr) (h:Heap),(K w.params).In h->h.Ns mainGlobals mg->mg d.name=some (.ref fa) ->
  ∃ fd:FuncData,(∀ (s:Shared) (u:Value),BindsTo s fd ⟨[u],[]⟩ [(x,u)]) /\
    ∀ base:Heap,(K w.params).In base->base.Ns mainGlobals mg->FnOk l.prog w (K w.params) mg base (CX w) k fa fd [x] (sp w))
 (hsp:∀ (w:World) (H:Hp) (a:Addr) (ns:List Int),ns.length<=n->Only H->SqL (K w.params) H a (ns.map V.int)->sp w [.ref a] H (fun v _=>v = .bl true) fun _ _ _=>False)
 (hCX:∀ (w:World) (H:Hp) (s:Shared) (e:Value) (s':Shared),CX w [] H s (fun _ _ _=>False) e s'->False) :
 PySem.W.WalkO q loose XP YP l.row.toRowW d [] (fun f vs=>PySem.call f vs):=by
 refine Att.attach_call hn hdf fun w s₀ s₁ mg mb fa o pm cd doc a vs ns G Y ho hd hcd hmg hobj hints hlen hg=>?_
 have KX:=hY w _ Y
 obtain ⟨fd,hb,hF⟩:=F w mg fa _ KX G.T.g hmg
 exact zu8 KX G.T.g G.T.b G.T.builtins G.T.nolimit hg hobj hints (Nat.le_trans hlen hn2) hr hF hb (fun H hO hS=>hsp w H a ns hlen hO hS) fun H e s'=>hCX w H s₁ e s'
end L2
namespace L2
open PySem PySem.Spec PyProof.Rows
noncomputable def zcd (s:Stmt):Arguments:=match s with
 | .FunctionDef _ a _ _ _ _ _ _ _ _=>a
 | _=>{ posonlyargs := [],args := [],vararg:=none,kwonlyargs := [],kw_defaults := [],kwarg:=none,defaults := [] }
noncomputable def zbg (s:Stmt):List Stmt:=match s with
 | .FunctionDef _ _ b _ _ _ _ _ _ _=>b
 | _ => []
noncomputable def zag (s:Stmt):Scope:=match s with
 | .FunctionDef _ _ _ _ _ _ sc _ _ _=>sc
 | _=>{ kind := .function,names := [],isGenerator:=false,isCoroutine:=false }
noncomputable abbrev CX0:CXT:=fun _ _ _ _ _ _=>False
noncomputable abbrev E0:XK:=fun _ _ _=>False
theorem zli {X:Cx}:zlx CX0 X E0:=fun _ _ _ _ _ _ _ h=>h.elim
structure Fun (K:PySem.W.Frag) (x qual:Str) (st:Stmt) (f:Addr) (fd:FuncData):Prop where
 ex:∃ (oc:Value) (od:Option Addr) (kV doc pm:Value) (an:Option Addr) (cdv ct:Value) (osl:Array (Option Value)),
  fd=PySem.W.fnOf x qual (zcd st) (zbg st) (zag st) .none kV doc pm an cdv ct/\K.lookup f=some ⟨oc,od,.func fd,osl⟩/\PySem.W.codeIn K cdv qual=true
 kp:PySem.W.keepIn K (.ref f)=true
section
variable {P : Program} {w : World} {K : PySem.W.Frag} {mg : Str → Option Value} {base : Heap}
theorem Fun.ok {x qual:Str} {st:Stmt} {f:Addr} {fd:FuncData} {N ps:List Str} {k:Nat} {sp:Sp} (F:Fun K x qual st f fd) (S:FnScope N ps (zag st)) (len:∀ vs H Q E,sp vs H Q E->vs.length=ps.length)
 (hbody:∀ (cdv:Value) (A:Around) (outer:List Env) (s:Shared) (H:Hp) (vs:List V) (Q:VK) (E:XK),Room k (A.deeper (envOfC qual (zag st) s.heap.objs.size f cdv))->sp vs H Q E ->
  ∃ t,PSs (cxOf CX0 P w K mg base N qual (zag st) f cdv A outer s H E).nox (zbg st) t/\t { nx:=fun _ H'=>Q .non H',rt:=Q } (start N vs) H):FnOk P w K mg base CX0 (k+1) f fd ps sp:=by
 obtain ⟨oc,od,kV,doc,pm,an,cdv,ct,osl,rfl,lk,hcd⟩:=F.ex
 refine z3q lk hcd S len fun A outer s H vs Q E hr hsp=>?_
 obtain ⟨t,h,q⟩:=hbody cdv A outer s H vs Q E hr hsp
 exact ⟨t,h.nox,q⟩
theorem Fun.binds {x qual:Str} {st:Stmt} {f:Addr} {fd:FuncData} {ps:List Str} (F:Fun K x qual st f fd)
 (h:∀ (kV doc pm:Value) (an:Option Addr) (cdv ct:Value) (us:List Value),us.length=ps.length->bindArgs (PySem.W.fnOf x qual (zcd st) (zbg st) (zag st) .none kV doc pm an cdv ct) ⟨us,[]⟩=pure (ps.zip us)):Binds K fd ps []:=by
 obtain ⟨oc,od,kV,doc,pm,an,cdv,ct,osl,rfl,lk,hcd⟩:=F.ex
 exact .all (h kV doc pm an cdv ct)
theorem zsw {x qual:Str} {st:Stmt} {f:Addr} {oc:Value} {od an:Option Addr} {osl:Array (Option Value)} {kV doc pm cdv ct:Value} (l:K.lookup f=some ⟨oc,od,.func (PySem.W.fnOf x qual (zcd st) (zbg st) (zag st) .none kV doc pm an cdv ct),osl⟩)
 (c:PySem.W.codeIn K cdv qual=true) (k:PySem.W.keepIn K (.ref f)=true):Fun K x qual st f (PySem.W.fnOf x qual (zcd st) (zbg st) (zag st) .none kV doc pm an cdv ct):=⟨⟨oc,od,kV,doc,pm,an,cdv,ct,osl,rfl,l,c⟩,k⟩
end
theorem iteF {A B:Prop} (h:B):if false=true then A else B:=by
 rw [if_neg Bool.false_ne_true]
 exact h
theorem iteT {A B:Prop} (h:A):if true=true then A else B:=by
 rw [if_pos rfl]
 exact h
theorem ite2 {c A B:Prop} [Decidable c] (h1:c->A) (h2:¬ c->B):if c then A else B:=by
 by_cases h:c
 ·rw [if_pos h]
  exact h1 h
 ·rw [if_neg h]
  exact h2 h
noncomputable def Same (H H':Hp):Prop:=∀ b o,H b=some o->H' b=some o
theorem Same.refl (H:Hp):Same H H:=fun _ _ h=>h
theorem Same.trans {H H1 H2:Hp} (a:Same H H1) (b:Same H1 H2):Same H H2:=fun c o h=>b c o (a c o h)
theorem Same.free {H H':Hp} (e:Same H H') {l:Addr} (h:H' l=Option.none):H l=Option.none:=by
 cases q:H l with
 | none=>rfl
 | some o =>
   rw [e l o q] at h
   cases h
theorem Same.seq {K:PySem.W.Frag} {H H':Hp} {a:Addr} {xs:List V} (e:Same H H') (h:SqL K H a xs):SqL K H' a xs:=by
 rcases h with (h | ⟨o,h⟩) | h
 ·exact .inl (.inl (e _ _ h))
 ·exact .inl (.inr ⟨o,e _ _ h⟩)
 ·exact .inr h
end L2
set_option maxHeartbeats 4000000
namespace L3
open PySem PySem.Spec
open PyProof.Rows hiding St
open L2
theorem zp1 {α β:Type} {l:List α} {f:α->β->Sem (ForInStep β)} (g:α->β->β):∀ (c:β),(∀ x ∈ l,∀ c,f x c=pure (.yield (g x c)))->forIn l c f=pure (l.foldl (fun c x=>g x c) c):=by
 induction l with
 | nil=>intro c _;rfl
 | cons x l ih =>
   intro c h
   rw [List.forIn_cons,h x List.mem_cons_self,pure_bind]
   exact ih (g x c) fun y hy=>h y (List.mem_cons_of_mem _ hy)
noncomputable def clOf (ns:List (Str × NameKind)) (env:Env):List (Str × Addr):=ns.foldl (fun cs x=>if x.2 == .free then (x.1,(env.cells.lookup x.1).getD 0)::cs else cs) []
theorem zqs {scope:Scope} {env:Env} (h:∀ p ∈ scope.names,p.2 = .free->∃ c,env.cells.lookup p.1=some c):closureFor scope env=pure (clOf scope.names env):=by
 simp only [closureFor]
 unfold clOf
 rw [zp1 (fun (x:Str × NameKind) (cs:List (Str × Addr))=>if x.2 == .free then (x.1,(env.cells.lookup x.1).getD 0)::cs else cs)]
 ·rfl
 ·intro x hx c
  obtain ⟨n,k⟩:=x
  dsimp only
  by_cases hk:k = .free
  ·subst hk
   obtain ⟨a,ha⟩:=h _ hx rfl
   have ha':env.cells.lookup n=some a:=ha
   simp only [beq_self_eq_true,if_true,cellOf,ha',pure_bind,Option.getD_some]
  ·have hb:(k == NameKind.free)=false:=by simpa using hk
   simp only [hb,Bool.false_eq_true,if_false]
theorem zzy {env:Env} {x:Str}:∀ (ns:List (Str × NameKind)) (acc:List (Str × Addr)) (c:Addr),
 (ns.foldl (fun cs y=>if y.2 == .free then (y.1,(env.cells.lookup y.1).getD 0)::cs else cs) acc).lookup x=some c->acc.lookup x=some c\/((x,NameKind.free) ∈ ns/\c=(env.cells.lookup x).getD 0):=by
 intro ns
 induction ns with
 | nil=>intro acc c h;exact .inl h
 | cons y r ih =>
   intro acc c h
   obtain ⟨n,k⟩:=y
   rw [List.foldl_cons] at h
   rcases ih _ c h with h1 | ⟨h1,h2⟩
   ·by_cases hk:k = .free
    ·subst hk
     simp only [beq_self_eq_true,if_true] at h1
     by_cases hx:x=n
     ·subst hx
      rw [List.lookup_cons_self] at h1
      cases h1
      exact .inr ⟨List.mem_cons_self,rfl⟩
     ·have hb:(x == n)=false:=by simpa using hx
      rw [List.lookup_cons,hb] at h1
      exact .inl h1
    ·have hb:(k == NameKind.free)=false:=by simpa using hk
     simp only [hb,Bool.false_eq_true,if_false] at h1
     exact .inl h1
   ·exact .inr ⟨List.mem_cons_of_mem _ h1,h2⟩
theorem zog {env:Env} {x:Str}:∀ (ns:List (Str × NameKind)) (acc:List (Str × Addr)),(acc.lookup x).isSome=true\/(x,NameKind.free) ∈ ns ->
 ((ns.foldl (fun cs y=>if y.2 == .free then (y.1,(env.cells.lookup y.1).getD 0)::cs else cs) acc).lookup x).isSome=true:=by
 intro ns
 induction ns with
 | nil => intro acc h;rcases h with h | h
          ·exact h
          ·exact absurd h (by simp)
 | cons y r ih =>
   intro acc h
   obtain ⟨n,k⟩:=y
   rw [List.foldl_cons]
   refine ih _ ?_
   by_cases hk:k = .free
   ·subst hk
    simp only [beq_self_eq_true,if_true]
    by_cases hx:x=n
    ·subst hx
     left
     rw [List.lookup_cons_self]
     rfl
    ·have hb:(x == n)=false:=by simpa using hx
     rw [List.lookup_cons,hb]
     rcases h with h | h
     ·exact .inl h
     ·rcases List.mem_cons.mp h with z | z
      ·injection z with z1 _
       exact absurd z1 hx
      ·exact .inr z
   ·have hb:(k == NameKind.free)=false:=by simpa using hk
    simp only [hb,Bool.false_eq_true,if_false]
    rcases h with h | h
    ·exact .inl h
    ·rcases List.mem_cons.mp h with z | z
     ·injection z with _ z2
      exact absurd z2.symm hk
     ·exact .inr z
theorem zrb {ns:List (Str × NameKind)} {env:Env} {x:Str} {c:Addr} (h:(clOf ns env).lookup x=some c):(x,NameKind.free) ∈ ns/\c=(env.cells.lookup x).getD 0:=by
 rcases zzy ns [] c h with z | z
 ·cases z
 ·exact z
theorem zs2 {ns:List (Str × NameKind)} {env:Env} {x:Str} {c:Addr} (h:(x,NameKind.free) ∈ ns) (e:env.cells.lookup x=some c):(clOf ns env).lookup x=some c:=by
 obtain ⟨d,hd⟩:=Option.isSome_iff_exists.mp (zog (env:=env) ns [] (.inr h))
 have hd':(clOf ns env).lookup x=some d:=hd
 rw [hd',(zrb hd').2,e]
 rfl
theorem zc6 {env:Env} {x:Str}:∀ (names:List (Str × NameKind)),
 (names.map fun (n,k)=>if (k == NameKind.free && env.scope.kind == .function && env.kindOf n == some .cell) then (n,NameKind.cell) else (n,k)).lookup x =
  (names.lookup x).map fun k=>if (k == NameKind.free && env.scope.kind == .function && env.kindOf x == some .cell) then NameKind.cell else k
 | []=>rfl
 | (n,k)::r=>by
   have ih:=zc6 (env:=env) (x:=x) r
   show List.lookup x ((if (k == NameKind.free && env.scope.kind == .function && env.kindOf n == some .cell)=true then (n,NameKind.cell) else (n,k))::_)=_
   by_cases hx:x=n
   ·subst hx
    by_cases hc:(k == NameKind.free && env.scope.kind == .function && env.kindOf x == some .cell)=true
    ·rw [if_pos hc,List.lookup_cons_self,List.lookup_cons_self,Option.map_some,if_pos hc]
    ·rw [if_neg hc,List.lookup_cons_self,List.lookup_cons_self,Option.map_some,if_neg hc]
   ·have hb:(x == n)=false:=by simpa using hx
    by_cases hc:(k == NameKind.free && env.scope.kind == .function && env.kindOf n == some .cell)=true
    ·rw [if_pos hc,List.lookup_cons,hb,List.lookup_cons,hb];exact ih
    ·rw [if_neg hc,List.lookup_cons,hb,List.lookup_cons,hb];exact ih
noncomputable def zdp (X:Cx) (scope:Scope) (N':List Str) (C:Addr) (s:Shared) (H:Hp) (ex:List Addr):Cx :=
 { X with N:=N',s₀:=s,H₀:=H,env:=compEnvC scope (clOf scope.names X.env) C X.env,outer:=X.stack,stack:=X.stack,ex:=ex,fn:=fun _=>false,pn := [],xe:=fun _ _=>False }
noncomputable def zom (h:Nat) (N' N:List Str) (names sc:List (Str × NameKind)):Bool :=
 decide (N'.length=h+N.length) && decide N'.Nodup
 && (names.all fun p=>p.2 != .cell && (p.2 != .local || names.lookup p.1 == some .local) && (p.2 != .free || (names.lookup p.1 == some .free && (sc.lookup p.1 == some .cell || sc.lookup p.1 == some .free))))
 && (((N'.drop h).zip N).all fun p=>match names.lookup p.1 with | some .free=>p.1 == p.2 | some .local=>false | some .cell=>false | _=>true)
structure ScopeOk (h:Nat) (N' N:List Str) (scope:Scope) (sc:Scope):Prop where
 kind:scope.kind = .function
 len:N'.length=h+N.length
 nd:N'.Nodup
 nocell:∀ y ∈ scope.names,y.2 ≠ .cell
 loc:∀ y ∈ scope.names,y.2 = .local->scope.names.lookup y.1=some .local
 free:∀ y ∈ scope.names,y.2 = .free->scope.names.lookup y.1=some .free/\(sc.names.lookup y.1=some .cell\/sc.names.lookup y.1=some .free)
 out:∀ (i:Nat) (x:Str) (k:NameKind),N'[h+i]? = some x->scope.names.lookup x=some k->(k = .local\/k = .cell\/k = .free)->N[i]? = some x/\k = .free
theorem ScopeOk.of {h:Nat} {N' N:List Str} {scope sc:Scope} (hk:scope.kind = .function) (e:zom h N' N scope.names sc.names=true):ScopeOk h N' N scope sc:=by
 unfold zom at e
 simp only [Bool.and_eq_true,decide_eq_true_eq,List.all_eq_true] at e
 obtain ⟨⟨⟨e1,e2⟩,e3⟩,e4⟩:=e
 refine ⟨hk,e1,e2,fun y hy z=>?_,fun y hy z=>?_,fun y hy z=>?_,fun i x k hx hl hkk=>?_⟩
 ·have:=e3 y hy
  rw [z] at this
  simp at this
 ·have:=e3 y hy
  rw [z] at this
  simpa using this
 ·have:=e3 y hy
  rw [z] at this
  simpa using this
 ·have h1:(N'.drop h)[i]? = some x:=by rw [List.getElem?_drop];exact hx
  have hi:i<N.length:=by
   obtain ⟨z,_⟩:=List.getElem?_eq_some_iff.mp hx
   lia
  have h2:N[i]? = some N[i]:=List.getElem?_eq_getElem hi
  have hm:(x,N[i]) ∈ (N'.drop h).zip N:=by
   refine List.mem_of_getElem? (i:=i) ?_
   rw [List.getElem?_zip_eq_some]
   exact ⟨h1,h2⟩
  have q:=e4 _ hm
  rw [hl] at q
  rcases hkk with rfl | rfl | rfl
  ·exact absurd q (by simp)
  ·exact absurd q (by simp)
  ·have q':x=N[i]:=by simpa using q
   exact ⟨by rw [h2,<- q'],rfl⟩
noncomputable def PF (X:Cx) (ifs:List Expr) (t:TT):Prop :=
 ∀ (pins:List (Addr × Obj)) (s:Shared) (σ:St) (H:Hp) (Q:Bool->Hp->Prop),Inv X pins σ H s->t σ H Q ->
   wpAny (model X.prog X.w) X.A (forIn ifs true fun c r=>if r=true then do let ok <- isTrue c X.env (eval c X.env);pure (ForInStep.yield ok) else pure (ForInStep.yield r)) (TP X pins σ Q) X.xe s
noncomputable def tYes:TT:=fun _ H Q=>Q true H
theorem zte {X:Cx}:PF X [] tYes:=fun _ _ _ H _ I h=>wpAny_tests_nil ⟨H,I,h⟩
theorem z2x {X:Cx} {c:Expr} {t:TT} (h:PT X c t):PF X [c] t:=fun pins s σ H Q I q=>wpAny_tests_one (h pins s σ H Q I q)
noncomputable def OwnG (h:Nat) (g:TG):Prop:=∀ v (σ:St) H Q,h<=σ.length->g v σ H Q->g v σ H fun σ2 H2=>Q σ2 H2/\σ2.length=σ.length/\σ2.drop h=σ.drop h
theorem zhq {h i:Nat} (hi:i<h):OwnG h (za9 i):=fun v σ H Q hl q=>⟨q,by simp,by rw [List.drop_set_of_lt hi]⟩
noncomputable def zi1 (h:Nat) (g:TGs):Prop:=∀ vs (σ:St) H Q,h<=σ.length->g vs σ H Q->g vs σ H fun σ2 H2=>Q σ2 H2/\σ2.length=σ.length/\σ2.drop h=σ.drop h
theorem zx2 {h:Nat}:zi1 h gNil:=fun vs σ H Q _ q=>⟨q.1,q.2,rfl,rfl⟩
noncomputable def MonG (g:TG):Prop:=∀ v σ H (Q Q':St->Hp->Prop),(∀ σ H,Q σ H->Q' σ H)->g v σ H Q->g v σ H Q'
noncomputable def zir (g:TGs):Prop:=∀ v σ H (Q Q':St->Hp->Prop),(∀ σ H,Q σ H->Q' σ H)->g v σ H Q->g v σ H Q'
theorem znq {i:Nat}:MonG (za9 i):=fun _ _ _ _ _ h q=>h _ _ q
theorem zy3:zir gNil:=fun _ _ _ _ _ h q=>⟨q.1,h _ _ q.2⟩
theorem zu2 {g:TG} {gs:TGs} (a:MonG g) (b:zir gs):zir (zh7 g gs):=fun vs σ H Q Q' h ⟨v,r,e,q⟩=>⟨v,r,e,a _ _ _ _ _ (fun σ' H' z=>b _ _ _ _ _ h z) q⟩
theorem zvk {h:Nat} {g:TG} {gs:TGs} (m:MonG g) (m2:zir gs) (a:OwnG h g) (b:zi1 h gs):zi1 h (zh7 g gs):=fun vs σ H Q hl ⟨v,r,e,q⟩=>by
 refine ⟨v,r,e,m _ _ _ _ _ (fun σ' H' z=>?_) (a v σ H _ hl q)⟩
 obtain ⟨z1,z2,z3⟩:=z
 exact m2 _ _ _ _ _ (fun σ2 H2 ⟨y1,y2,y3⟩=>⟨y1,y2.trans z2,y3.trans z3⟩) (b r σ' H' Q (by lia) z1)
theorem zyk {K:PySem.W.Frag} {h n:Nat} {gs:TGs} (b:zi1 h gs):OwnG h (gTup K n gs):=fun v σ H Q hl ⟨a,xs,e1,e2,e3,q⟩=>⟨a,xs,e1,e2,e3,b xs σ H Q hl q⟩
noncomputable def zrf (h:Nat) (wi:TI) (g:TG) (tf:TT) (te:TE):TE:=fun σ H Q=>wi σ H fun J H1=>∀ D,H1 D=none->∃ W:Nat->Nat->List V->Hp->Prop,(∃ m,W 0 m [] (upd H1 D (.lst [])))/\∀ i m ys H,W i m ys H ->
 H D=some (.lst ys)/\((J.stop i H/\Q (.ref D) H)\/(J.go i H/\∀ x H',J.yld i H x H'->g x (List.replicate h none++σ) H' fun σ2 H2=>tf σ2 H2 fun c H3 =>
   if c=true then te σ2 H3 fun y H4=>H4 D=some (.lst ys)/\ys.length<sizeLine/\∃ m',m'<m/\W (i+1) m' (ys ++ [y]) (upd H4 D (.lst (ys ++ [y]))) else ∃ m',m'<m/\W (i+1) m' ys H3))
theorem zoa {prog:Program} {w:World} {A:Around} {R:Result->Shared->Prop} {s:Shared} {elt target iter:Expr} {ifs:List Expr} {scope:Scope} {pos:Pos} {it acc:Value} {env:Env} (I:Nat->Shared->Prop)
 (turn:∀ n s,I n s->wpAny (model prog w) A (pyNext it) (fun r s₁=>match r with
  | none=>R (.ok .next) s₁
  | some v=>wpAny (model prog w) A (letOwnedTupleGo target it v) (fun _ s₀=>wpAny (model prog w) A (assign target env v) (fun _ s₂ =>
   wpAny (model prog w) A (forIn ifs true fun c r=>if r=true then do let ok <- isTrue c env (eval c env);pure (ForInStep.yield ok) else pure (ForInStep.yield r)) (fun ok s₃ =>
    if ok=true then wpAny (model prog w) A (eval elt env) (fun x s₄ =>
     wpAny (model prog w) A (call (.builtin "list.append") [acc,x]) (fun _ s₅=>∃ m,m<n/\I m s₅) (fun _ _=>False) s₄) (fun _ _=>False) s₃
    else ∃ m,m<n/\I m s₃) (fun _ _=>False) s₂) (fun _ _=>False) s₀) (fun _ _=>False) s₁) (fun _ _=>False) s)
 (n:Nat) (h:I n s):codeAny (model prog w) A (.compLoop (.ListComp elt [⟨target,iter,ifs,0⟩] scope pos) 0 it acc env) R s:=by
 refine codeAny_loop rfl I (fun n s hI=>?_) n h
 show wpAny _ A ((compTurn (.ListComp elt [⟨target,iter,ifs,0⟩] scope pos) 0 it acc env).onRaise (fun x=>do noteFrame x env;theTreesLotGoes x)) _ _ s
 refine wpAny_noted ?_
 rw [compTurn_list]
 refine wpAny_bind (wpAny_standAt (wpAny_bind (wpAny_mono (turn n s hI) (fun r s₁ h₁=>?_) fun _ _ h'=>h'.elim)))
 cases r with
 | none=>exact wpAny_pure h₁
 | some v =>
   refine wpAny_bind (wpAny_mono h₁ (fun _ s₀ h₀=>?_) fun _ _ h'=>h'.elim)
   refine wpAny_bind (wpAny_mono h₀ (fun _ s₂ h₂=>wpAny_bind (wpAny_mono h₂ (fun ok s₃ h₃=>?_) fun _ _ h'=>h'.elim)) fun _ _ h'=>h'.elim)
   cases ok with
   | false=>exact wpAny_pure ⟨rfl,h₃⟩
   | true =>
     exact wpAny_bind (wpAny_bind (wpAny_mono h₃ (fun x s₄ h₄=>wpAny_bind (wpAny_mono h₄ (fun _ s₅ h₅=>wpAny_pure (wpAny_pure ⟨rfl,h₅⟩)) fun _ _ h'=>h'.elim)) fun _ _ h'=>h'.elim))
section
variable {X : Cx} {pins : List (Addr × Obj)} {σ : St} {H : Hp} {s : Shared}
theorem zxv {h:Nat} {N':List Str} {scope:Scope} {fp:List Addr} (I:Inv X pins σ H s) (S:ScopeOk h N' X.N scope X.env.scope) (hf:∀ b ∈ fp,FpOk X pins H b) (hlt:∀ b ∈ fp,b<s.heap.objs.size) :
 (zdp X scope N' s.heap.objs.size s H fp).Ok:=by
 have cl:∀ x c,(clOf scope.names X.env).lookup x=some c->X.env.cells.lookup x=some c:=fun x c e=>by
  obtain ⟨h1,h2⟩:=zrb e
  obtain ⟨d,hd⟩:=I.ok.has x (S.free _ h1 rfl).2
  rw [hd] at h2 ⊢
  rw [h2];rfl
 refine ⟨I.ok.mod,?_,I.ok.glob,I.ok.blt,Nat.le_refl _,fun x y c e1 e2=>I.ok.inj x y c (cl x c e1) (cl y c e2),fun x hx=>?_,fun x c z=>?_,I.ok.hd,I.ok.frames,.inl rfl,fun b hb=>⟨Nat.ne_of_lt (hlt b hb),fun x c e=>(hf b hb).2.2.2.2.1 x c (cl x c e)⟩,fun b o e=>I.bs b o e,Nat.le_trans I.ok.bsz I.sz,fun b o e hb=>?_,fun b hb z=>?_,I.stack,I.stkFree⟩
 ·exact S.kind
 ·have hx':(relabel scope X.env).names.lookup x=some .cell\/(relabel scope X.env).names.lookup x=some .free:=hx
  have e:=zc6 (env:=X.env) (x:=x) scope.names
  have hl:scope.names.lookup x=some .free:=by
   cases q:scope.names.lookup x with
   | none=>rw [q] at e;rcases hx' with z | z <;> (have z':=e.symm.trans z;cases z')
   | some k =>
     rw [q,Option.map_some] at e
     by_cases hk:k = .free
     ·rw [hk]
     ·have hc:¬ (k == NameKind.free && X.env.scope.kind == .function && X.env.kindOf x == some .cell)=true:=by
       have:(k == NameKind.free)=false:=by simpa using hk
       rw [this];simp
      rw [if_neg hc] at e
      rcases hx' with z | z
      ·have z':=e.symm.trans z
       cases z'
       exact absurd rfl (S.nocell _ (PySem.mem_of_lookup q))
      ·have z':=e.symm.trans z
       cases z'
       rfl
  have hm:=PySem.mem_of_lookup hl
  obtain ⟨c,hc⟩:=I.ok.has x (S.free _ hm rfl).2
  exact ⟨c,zs2 hm hc⟩
 ·exact absurd z Bool.false_ne_true
 ·rcases (hf b hb).2.2.2.1 with z | z
  ·exact I.ok.noex b o e z
  ·exact absurd (Nat.lt_of_lt_of_le (Heap.lt_size (I.ok.bs b o e).1) z) (Nat.lt_irrefl _)
 ·obtain ⟨_,f1,f2,_⟩:=hf b hb
  rcases List.mem_cons.mp (I.stkSub b z) with q | q
  ·exact f1 q
  ·exact f2 q
theorem zov {h:Nat} {N':List Str} {scope:Scope} (I:Inv X pins σ H s) (S:ScopeOk h N' X.N scope X.env.scope):∀ x c,(clOf scope.names X.env).lookup x=some c->X.env.cells.lookup x=some c:=fun x c e=>by
 obtain ⟨h1,h2⟩:=zrb e
 obtain ⟨d,hd⟩:=I.ok.has x (S.free _ h1 rfl).2
 rw [hd] at h2 ⊢
 rw [h2];rfl
theorem zpy {h:Nat} {N':List Str} {scope:Scope} {fp:List Addr} {h':Heap} {tk:Nat} (I:Inv X pins σ H s) (S:ScopeOk h N' X.N scope X.env.scope) (hf:∀ b ∈ fp,FpOk X pins H b) (hlt:∀ b ∈ fp,b<s.heap.objs.size)
 (hn:h'.Ns s.heap.objs.size fun _=>none) (kp:∀ b o,s.heap.get? b=some o->h'.get? b=some o) :
 Inv (zdp X scope N' s.heap.objs.size s H fp) [] (List.replicate h none++σ) H { s with heap:=h',toks:=tk }:=by
 have ok:=zxv I S hf hlt
 have cl:=zov I S
 refine ⟨ok,rfl,I.bare,Un.kept kp,⟨_,hn,fun i x v e1 e2 e3=>?_⟩,fun x c e=>?_,I.hok.fresh (Nat.le_refl _),fun x c e=>I.freeC x c (cl x c e),fun p hp=>absurd (show p ∈ ([]:List (Addr × Obj)) from hp) (by simp),I.hok.kept kp,?_⟩
 ·have e1:N'[i]? = some x:=e1
  by_cases hi:i<h
  ·rw [List.getElem?_append_left (by simpa using hi),List.getElem?_replicate,if_pos hi] at e2
   cases e2
  ·obtain ⟨j,rfl⟩:∃ j,i=h+j:=⟨i - h,by lia⟩
   rw [List.getElem?_append_right (by simp),List.length_replicate,Nat.add_sub_cancel_left] at e2
   have e3:Vis (relabel scope X.env) x:=e3
   have er:=zc6 (env:=X.env) (x:=x) scope.names
   have hl:∃ k,scope.names.lookup x=some k/\(k = .local\/k = .cell\/k = .free)/\(relabel scope X.env).names.lookup x=some (if (k == NameKind.free && X.env.scope.kind == .function && X.env.kindOf x == some .cell) then NameKind.cell else k):=by
    cases q:scope.names.lookup x with
    | none=>rw [q] at er;rcases e3 with z | z | z <;> (have z':=er.symm.trans z;cases z')
    | some k =>
      rw [q,Option.map_some] at er
      refine ⟨k,rfl,?_,er⟩
      by_cases hc:(k == NameKind.free && X.env.scope.kind == .function && X.env.kindOf x == some .cell)=true
      ·simp only [Bool.and_eq_true,beq_iff_eq] at hc
       exact .inr (.inr hc.1.1)
      ·rw [if_neg hc] at er
       rcases e3 with z | z | z <;> (have z':=er.symm.trans z;cases z';simp)
   obtain ⟨k,hk,hkk,hre⟩:=hl
   obtain ⟨hN,rfl⟩:=S.out j x k e1 hk hkk
   have hm:=PySem.mem_of_lookup hk
   have hfr:=(S.free _ hm rfl).2
   obtain ⟨m,hnm,hlk⟩:=I.loc
   obtain ⟨u,ru,lk⟩:=hlk j x v hN e2 (by rcases hfr with z | z;exact .inr (.inl z);exact .inr (.inr z))
   refine ⟨u,ru,?_⟩
   rcases lk with ⟨hloc,_⟩ | ⟨hkd,c,hc,hcell⟩
   ·have hloc:X.env.scope.names.lookup x=some .local:=hloc
    rcases hfr with z | z <;> (rw [hloc] at z;cases z)
   ·refine .inr ⟨?_,c,zs2 hm hc,?_⟩
    ·show (relabel scope X.env).names.lookup x=some .cell\/(relabel scope X.env).names.lookup x=some .free
     rw [hre]
     split
     ·exact .inl rfl
     ·exact .inr rfl
    ·obtain ⟨o,ho,hd⟩:=hcell
     exact ⟨o,kp c o ho,hd⟩
 ·obtain ⟨v,o,ho,hd⟩:=I.cell x c (cl x c e)
  exact ⟨v,o,kp c o ho,hd⟩
 ·show (List.replicate h none++σ).length=N'.length
  rw [List.length_append,List.length_replicate,S.len,I.len]
theorem zuw {h:Nat} {N':List Str} {scope:Scope} {fp:List Addr} {pins':List (Addr × Obj)} {σ':St} {H':Hp} {s':Shared} {h':Heap} (I:Inv X pins σ H s) (S:ScopeOk h N' X.N scope X.env.scope) (hf:∀ b ∈ fp,FpOk X pins H b)
 (J:Inv (zdp X scope N' s.heap.objs.size s H fp) pins' σ' H' s') (hs:Heap.SameBut s.heap.objs.size s'.heap h'):Inv X pins σ H' { s' with heap:=h' }:=by
 have ne:∀ b o,s.heap.get? b=some o->b ≠ s.heap.objs.size:=fun b o e=>Nat.ne_of_lt (Heap.lt_size e)
 have u:Un (frs X.stack) fp H H' s.heap s'.heap:=J.base
 have hC:H' s.heap.objs.size=none:=J.free
 obtain ⟨m0,⟨oC,_,_,hoC,_⟩,_⟩:=id J.loc
 refine I.call' (s':={ s' with heap:=h' }) (ch:=fp) J.os ⟨fun b o e n hb hx=>(hs.2 b (ne b o e)).trans (u.keep b o e n hb hx),fun b o e n hb hx=>?_,u.free,fun b o e hx=>?_,u.tups,u.frzs,u.tbls⟩ (fun b ob e=>?_) J.bare fun b hb=>?_
 ·obtain ⟨sl,z⟩:=u.slot b o e n hb hx
  exact ⟨sl,(hs.2 b (ne b o e)).trans z⟩
 ·obtain ⟨o',z⟩:=u.there b o e hx
  exact ⟨o',(hs.2 b (ne b o e)).trans z⟩
 ·refine (J.hok b ob e).stay (fun c w' hc q=>(hs.2 c ?_).trans q) (fun _ q=>q) fun _ _ q=>q
  rintro rfl
  rcases hc with z | z
  ·rw [<- z,hC] at e;cases e
  ·rw [hC] at z;cases z
 ·obtain ⟨_,f1,_,f3,f4,f5⟩:=hf b hb
  exact ⟨f3,f1,f4,f5⟩
end
theorem zok {X:Cx} {elt tg iter:Expr} {ifs:List Expr} {scope:Scope} {pos:Pos} {wi:TI} {g:TG} {tf:TT} {te:TE} {N':List Str} (h:Nat) (S:ScopeOk h N' X.N scope X.env.scope) (hc:X.calm=true) (hi:PI X tg iter wi)
 (hg:∀ C s H ex,PG (zdp X scope N' C s H ex) tg g) (ho:OwnG h g) (ht:∀ C s H ex,PF (zdp X scope N' C s H ex) ifs tf) (he:∀ C s H ex,PE (zdp X scope N' C s H ex) elt te)
 (hs:∀ x,foldedSetIterable iter X.env x=pure x:=by intro _;rfl) :
 PE X (.ListComp elt [⟨tg,iter,ifs,0⟩] scope pos) (zrf h wi g tf te):=by
 intro pins s σ H Q I hq
 rw [eval_ListComp]
 refine wpAny_comprehension_free (use:=none) rfl hs (zqs (env:=X.env) fun p hp hk=>I.ok.has p.1 (S.free p hp hk).2) S.kind S.loc ?_
 refine thn (hi pins s σ H _ I hq) fun v s1 h1=>thn h1 fun itv s2 h2=>?_
 obtain ⟨it,fp,tn,J,H2,rfl,I2,T,st2,f2,hq⟩:=h2
 refine wpAny_newObj_type ?_ (by show 0<=sizeLine;exact Nat.zero_le _)
 have hD:H2 s2.heap.objs.size=none:=I2.hok.fresh (Nat.le_refl _)
 have I3:Inv X pins σ (upd H2 s2.heap.objs.size (.lst [])) { s2 with heap:=s2.heap.push { cls := .type "list", data := .seq ([]:List Value).toArray },toks:=s2.toks }:=I2.lnew (t':=s2.toks) .nil (Nat.zero_le _)
 generalize hs3:({ s2 with heap:=s2.heap.push { cls := .type "list", data := .seq ([]:List Value).toArray },toks:=s2.toks }:Shared)=s3 at I3
 have hs3':({ s2 with heap:=s2.heap.push { cls := .type "list", data := .seq ([]:List Value).toArray } }:Shared)=s3:=hs3
 obtain ⟨W,⟨m0,w0⟩,turn⟩:=hq s2.heap.objs.size hD
 have olt:∀ b ∈ fp,b<s2.heap.objs.size:=fun b hb=>by
  obtain ⟨o,e,_⟩:=T.obj _ _ st2 b hb
  exact Heap.lt_size e
 have hsz:s3.heap.objs.size=s2.heap.objs.size+1:=by rw [<- hs3];exact Heap.size_push ..
 have k23:∀ b o,s2.heap.get? b=some o->s3.heap.get? b=some o:=fun b o e=>by rw [<- hs3];exact Heap.get?_push_of_some _ e
 have f3:∀ b ∈ fp,FpOk X pins (upd H2 s2.heap.objs.size (.lst [])) b:=fun b hb=>⟨by rw [zad (Nat.ne_of_lt (olt b hb))];exact (f2 b hb).1,(f2 b hb).2⟩
 have lt3:∀ b ∈ fp,b<s3.heap.objs.size:=fun b hb=>by rw [hsz];exact Nat.lt_succ_of_lt (olt b hb)
 refine wpAny_newFunctionEnv S.nocell (by intro y hy;simp at hy) (fun h4 hn4 hsb4=>?_) S.kind
 have k34:∀ b o,s3.heap.get? b=some o->h4.get? b=some o:=fun b o e=>hsb4.extBut b o (Nat.ne_of_lt (Heap.lt_size e)) (Heap.get?_push_of_some _ e)
 have I4:=zpy (h':=h4) (tk:=s3.toks+([]:List (Str × Value)).length) I3 S f3 lt3 hn4 k34
 have st4:tn 0 h4:=T.keep _ _ _ st2 fun b hb o e=>k34 b o (k23 b o e)
 generalize hX:zdp X scope N' s3.heap.objs.size s3 (upd H2 s2.heap.objs.size (.lst [])) fp=X' at I4
 have hA:X'.A=X.A:=by rw [<- hX];rfl
 -- the iterator's objects,in the block
 have fpX:∀ {H':Hp} {pl:List (Addr × Obj)},(∀ b ∈ fp,H' b=none)->pl = []->∀ b ∈ fp,FpOk X' pl H' b:=fun {H' pl} hn0 hpl b hb=>by
  subst hpl
  obtain ⟨q0,q1,q2,q3,q4,q5⟩:=f3 b hb
  subst hX
  refine ⟨hn0 b hb,Nat.ne_of_lt (lt3 b hb),fun z=>?_,.inl hb,fun x c e=>q4 x c (zov I3 S x c e),fun p hp=>absurd (show p ∈ ([]:List (Addr × Obj)) from hp) (by simp)⟩
  rcases List.mem_cons.mp (I3.stkSub b z) with z | z
  ·exact q1 z
  ·exact q2 z
 have hcX:X'.calm=true:=by rw [<- hX];exact hc
 have hR:∀ s':Shared,(∃ (m:Nat) (i:Nat) (ys:List V) (H':Hp),Inv X' [] (List.replicate h none++σ) H' s'/\tn i s'.heap/\(∀ b ∈ fp,H' b=none)/\W i m ys H')->True:=fun _ _=>trivial
 have loop:∀ (sL:Shared),(Inv X' [] (List.replicate h none++σ) (upd H2 s2.heap.objs.size (.lst [])) sL)->tn 0 sL.heap ->
  codeAny (model X.prog X.w) X.A (.compLoop (.ListComp elt [⟨tg,iter,ifs,0⟩] scope pos) 0 (.ref it) (.ref s2.heap.objs.size) X'.env)
   (compPost (model X.prog X.w) X.A X.xe none (EP X pins σ Q) (.ref s2.heap.objs.size) s3.heap.objs.size) sL:=by
  intro sL IL stL
  refine zoa (fun n s'=>∃ i ys H',Inv X' [] (List.replicate h none++σ) H' s'/\tn i s'.heap/\(∀ b ∈ fp,H' b=none)/\W i n ys H') ?_ m0 ⟨0,[],_,IL,stL,fun b hb=>(f3 b hb).1,w0⟩
  rintro n s5 ⟨i,ys,H5,I5,st5,fr5,w5⟩
  obtain ⟨hDy,hh⟩:=turn i n ys H5 w5
  have eP:X'.prog=X.prog:=by rw [<- hX];rfl
  have eW:X'.w=X.w:=by rw [<- hX];rfl
  have eK:X'.K=X.K:=by rw [<- hX];rfl
  have eE:X'.xe=fun _ _=>False:=by rw [<- hX];rfl
  rcases hh with ⟨stop,qn⟩ | ⟨go,step⟩
  ·have:=T.done X' eP eW eK hcX i [] s5 _ H5 (fun _ _=>False) I5 (fpX fr5 rfl) st5 stop
   rw [hA] at this
   refine thn this fun r s6 ⟨hr,I6⟩=>?_
   subst hr
   obtain ⟨m6,hm6,_⟩:=id I6.loc
   refine ⟨m6,?_,fun h7 hs7=>?_⟩
   ·rw [<- hX] at hm6;exact hm6
   ·rw [<- hX] at I6
    exact ⟨.ref s2.heap.objs.size,H5,zuw I3 S f3 I6 hs7,rfl,qn⟩
  ·have:=T.item X' eP eW eK hcX i [] s5 _ H5 (fun _ _=>False) I5 (fpX fr5 rfl) st5 go
   rw [hA] at this
   refine thn this fun r s6 ⟨u,hr,h6⟩=>?_
   subst hr
   refine thn h6 fun _ s7 ⟨x,H7,I7,r7,y7,st7,fr7⟩=>?_
   have I7':=I7.pinned (fpX fr7 rfl) (T.obj _ _ st7)
   have back:∀ {σ':St} {H':Hp} {s':Shared},Inv X' ([]++zgb fp s7.heap) σ' H' s'->σ'.length=(List.replicate h none++σ:St).length->σ'.drop h=(List.replicate h none++σ:St).drop h ->
    Inv X' [] (List.replicate h none++σ) H' s'/\tn (i+1) s'.heap/\∀ b ∈ fp,H' b=none:=by
    intro σ' H' s' I' hl hd
    refine ⟨I'.unpinned.weak hl.symm fun j v e=>?_,T.keep _ _ _ st7 fun b hb o e=>?_,fun b hb=>?_⟩
    ·by_cases hj:j<h
     ·rw [List.getElem?_append_left (by simpa using hj),List.getElem?_replicate,if_pos hj] at e
      cases e
     ·have e1:(σ'.drop h)[j - h]? = σ'[j]?:=by rw [List.getElem?_drop];congr 1;lia
      have e2:((List.replicate h none++σ:St).drop h)[j - h]? = (List.replicate h none++σ:St)[j]?:=by rw [List.getElem?_drop];congr 1;lia
      rw [<- e1,hd,e2];exact e
    ·exact (I'.pin (b,o) (List.mem_append_right _ (List.mem_append_right _ (zdx hb e)))).1
    ·obtain ⟨o,e,_⟩:=T.obj _ _ st7 b hb
     exact (I'.pin (b,o) (List.mem_append_right _ (List.mem_append_right _ (zdx hb e)))).2.1
   have hg':=hg s3.heap.objs.size s3 (upd H2 s2.heap.objs.size (.lst [])) fp
   have ht':=ht s3.heap.objs.size s3 (upd H2 s2.heap.objs.size (.lst [])) fp
   have he':=he s3.heap.objs.size s3 (upd H2 s2.heap.objs.size (.lst [])) fp
   rw [hX] at hg' ht' he'
   have hl0:h<=(List.replicate h none++σ:St).length:=by simp
   have a1:=hg' _ s7 _ H7 x u _ I7' r7 (ho x _ H7 _ hl0 (step x H7 y7))
   rw [hA,eP,eW,eE] at a1
   refine thn a1 fun _ s8 ⟨σ8,H8,I8,q8,l8,d8⟩=>?_
   have a2:=ht' _ s8 σ8 H8 _ I8 q8
   rw [hA,eP,eW,eE] at a2
   refine thn a2 fun c s9 ⟨H9,I9,q9⟩=>?_
   cases c with
   | false =>
     obtain ⟨m',hm',w'⟩:=q9
     obtain ⟨b1,b2,b3⟩:=back I9 l8 d8
     exact ⟨m',hm',i+1,ys,H9,b1,b2,b3,w'⟩
   | true =>
     have a3:=he' _ s9 σ8 H9 _ I9 q9
     rw [hA,eP,eW,eE] at a3
     refine thn a3 fun yv s10 ⟨y,H10,I10,r10,hD10,hz10,m',hm',w'⟩=>?_
     have a4:=zkj (X:=X') _ s10 σ8 H10 (.ref s2.heap.objs.size) [y] (.ref s2.heap.objs.size) [yv] (fun _ Hz=>Hz=upd H10 s2.heap.objs.size (.lst (ys ++ [y]))) I10 rfl (.cons r10 .nil) ⟨_,ys,y,rfl,rfl,hD10,hz10,rfl⟩
     rw [hA,eP,eW,eE] at a4
     refine thn a4 fun _ s11 ⟨_,H11,I11,_,e11⟩=>?_
     subst e11
     obtain ⟨b1,b2,b3⟩:=back I11 l8 d8
     exact ⟨m',hm',i+1,ys ++ [y],_,b1,b2,b3,w'⟩
 have fin:=codeAny_compStart_list (prog:=X.prog) (w:=X.w) (A:=X.A) (R:=compPost (model X.prog X.w) X.A X.xe none (EP X pins σ Q) (.ref s2.heap.objs.size) s3.heap.objs.size) (elt:=elt) (target:=tg) (iter:=iter) (ifs:=ifs) (rest := []) (scope:=scope) (pos:=pos) (it := .ref it) (acc := .ref s2.heap.objs.size) (env:=X'.env)
  (loop _ I4 st4) (T.self _ 0 _ _ _ st4 (loop _ I4 st4))
 have hE:X'.env=compEnvC scope (clOf scope.names X.env) s3.heap.objs.size X.env:=by rw [<- hX];rfl
 rw [hE] at fin
 exact fin
end L3
namespace L3
open PySem PySem.Spec
open PyProof.Rows hiding St
open L2
mutual
inductive Is (K:PySem.W.Frag) (F:Addr->Prop) (H:Hp):V->PyData->Prop
 | none:Is K F H .non .none
 | bool (b):Is K F H (.bl b) (.bool b)
 | int (i):Is K F H (.int i) (.int i)
 | str (x):Is K F H (.str x) (.str x)
 | list {a xs ds}:F a->H a=some (.lst xs)->IsAll K F H xs ds->Is K F H (.ref a) (.list ds)
 | tuple {a xs ds}:SqT K H a xs->IsAll K F H xs ds->Is K F H (.ref a) (.tuple ds)
inductive IsAll (K:PySem.W.Frag) (F:Addr->Prop) (H:Hp):List V->List PyData->Prop
 | nil:IsAll K F H [] []
 | cons {v vs d ds}:Is K F H v d->IsAll K F H vs ds->IsAll K F H (v::vs) (d::ds)
end
section
variable {K : PySem.W.Frag} {F F' : Addr → Prop} {H H' : Hp}
mutual
theorem Is.to (hL:∀ a xs,F a->H a=some (.lst xs)->F' a/\H' a=some (.lst xs)) (hT:∀ a xs,SqT K H a xs->SqT K H' a xs):∀ {v d},Is K F H v d->Is K F' H' v d
 | _,_,.none => .none
 | _,_,.bool b => .bool b
 | _,_,.int i => .int i
 | _,_,.str x => .str x
 | _,_,.list f q r => .list (hL _ _ f q).1 (hL _ _ f q).2 (IsAll.to hL hT r)
 | _,_,.tuple q r => .tuple (hT _ _ q) (IsAll.to hL hT r)
theorem IsAll.to (hL:∀ a xs,F a->H a=some (.lst xs)->F' a/\H' a=some (.lst xs)) (hT:∀ a xs,SqT K H a xs->SqT K H' a xs):∀ {vs ds},IsAll K F H vs ds->IsAll K F' H' vs ds
 | _,_,.nil => .nil
 | _,_,.cons r t => .cons (Is.to hL hT r) (IsAll.to hL hT t)
end
theorem IsAll.length:∀ {vs ds},IsAll K F H vs ds->vs.length=ds.length
 | _,_,.nil=>rfl
 | _,_,.cons _ t=>by rw [List.length_cons,List.length_cons,IsAll.length t]
theorem IsAll.get:∀ {vs ds} {i:Nat} {d},IsAll K F H vs ds->ds[i]? = some d->∃ v,vs[i]? = some v/\Is K F H v d
 | _,_,_,_,.nil,e=>by simp at e
 | _,_,0,_,.cons r _,e=>by simp at e;subst e;exact ⟨_,rfl,r⟩
 | _,_,i+1,d,.cons _ t,e=>by
   obtain ⟨v,h1,h2⟩:=IsAll.get (i:=i) (d:=d) t (by simpa using e)
   exact ⟨v,by simpa using h1,h2⟩
theorem IsAll.append:∀ {vs ds ws es},IsAll K F H vs ds->IsAll K F H ws es->IsAll K F H (vs++ws) (ds++es)
 | _,_,_,_,.nil,s=>s
 | _,_,_,_,.cons r t,s => .cons r (IsAll.append t s)
theorem IsAll.snoc {vs ds v d} (h:IsAll K F H vs ds) (r:Is K F H v d):IsAll K F H (vs ++ [v]) (ds ++ [d]):=h.append (.cons r .nil)
theorem IsAll.take:∀ {vs ds} (n:Nat),IsAll K F H vs ds->IsAll K F H (vs.take n) (ds.take n)
 | _,_,0,_ => .nil
 | _,_,_+1,.nil => .nil
 | _,_,n+1,.cons r t => .cons r (IsAll.take n t)
theorem IsAll.drop:∀ {vs ds} (n:Nat),IsAll K F H vs ds->IsAll K F H (vs.drop n) (ds.drop n)
 | _,_,0,r=>r
 | _,_,_+1,.nil => .nil
 | _,_,n+1,.cons _ t=>IsAll.drop n t
end
noncomputable def SameB (M:Addr->Prop) (H H':Hp):Prop:=∀ a o,H a=some o->¬ M a->H' a=some o
theorem SameB.refl (M:Addr->Prop) (H:Hp):SameB M H H:=fun _ _ h _=>h
theorem SameB.trans {M:Addr->Prop} {H H1 H2:Hp} (a:SameB M H H1) (b:SameB M H1 H2):SameB M H H2:=fun c o h n=>b c o (a c o h n) n
theorem SameB.of {M:Addr->Prop} {H H':Hp} (s:Same H H'):SameB M H H':=fun a o h _=>s a o h
theorem SameB.free {M:Addr->Prop} {H H':Hp} (e:SameB M H H') {l:Addr} (hm:¬ M l) (h:H' l=Option.none):H l=Option.none:=by
 cases q:H l with
 | none=>rfl
 | some o=>rw [e l o q hm] at h;cases h
noncomputable def TupStay (H H':Hp):Prop:=∀ a u,(∃ xs,u=HO.tup xs\/∃ o,u=HO.frz o (.tup xs))->H a=some u->H' a=some u
theorem SqT.stay {K:PySem.W.Frag} {H H':Hp} {a:Addr} {xs:List V} (e:TupStay H H') (h:SqT K H a xs):SqT K H' a xs:=by
 rcases h with (h | ⟨o,h⟩) | h
 ·exact .inl (.inl (e _ _ ⟨xs,.inl rfl⟩ h))
 ·exact .inl (.inr ⟨o,e _ _ ⟨xs,.inr ⟨o,rfl⟩⟩ h⟩)
 ·exact .inr h
structure Ob where
 M:Addr->Prop
 P:Hp->Prop
 v:V
structure Ob.Ok (O:Ob):Prop where
 loc:∀ H H',(∀ a,O.M a->H' a=H a)->O.P H->O.P H'
 mutb:∀ H a o,O.P H->H a=some o->O.M a->(∀ xs,o ≠ .tup xs)/\∀ q u,o ≠ .frz q u
 here:∀ H a,O.P H->O.M a->∃ o,H a=some o
theorem Ob.Ok.grow {O:Ob} (ok:O.Ok) (H H':Hp) (s:Same H H') (p:O.P H):O.P H':=ok.loc H H' (fun a m=>by
 obtain ⟨o,e⟩:=ok.here H a p m
 rw [e,s a o e]) p
noncomputable def Ob.plus (O:Ob) (D:Addr) (u:HO):Ob:=⟨fun a=>O.M a\/a=D,fun H=>O.P H/\H D=some u,O.v⟩
theorem Ob.Ok.plus {O:Ob} (ok:O.Ok) (D:Addr) (xs:List V):(O.plus D (.lst xs)).Ok :=
 ⟨fun H H' e p=>⟨ok.loc H H' (fun a m=>e a (.inl m)) p.1,(e D (.inr rfl)).trans p.2⟩,
  fun H a o p e m=>by
   rcases m with m | rfl
   ·exact ok.mutb H a o p.1 e m
   ·rw [p.2] at e;cases e;exact ⟨fun _ h=>(by cases h),fun _ _ h=>(by cases h)⟩,
  fun H a p m=>by
   rcases m with m | rfl
   ·exact ok.here H a p.1 m
   ·exact ⟨_,p.2⟩⟩
structure Stp (O:Ob) (H H':Hp):Prop where
 s:SameB O.M H H'
 p:O.P H->O.P H'
 t:TupStay H H'
theorem Stp.refl (O:Ob) (H:Hp):Stp O H H:=⟨.refl _ _,fun h=>h,fun _ _ _ h=>h⟩
theorem Stp.trans {O:Ob} {H H1 H2:Hp} (a:Stp O H H1) (b:Stp O H1 H2):Stp O H H2:=⟨a.s.trans b.s,fun h=>b.p (a.p h),fun c u hu h=>b.t c u hu (a.t c u hu h)⟩
theorem Stp.same {O:Ob} (ok:O.Ok) {H H':Hp} (s:Same H H'):Stp O H H':=⟨.of s,ok.grow H H' s,fun a u _ h=>s a u h⟩
theorem same_new {H:Hp} {p:Addr} (h:H p=none) (o:HO):Same H (upd H p o):=fun b u q=>by rw [zad (zb1 q h)];exact q
theorem Stp.new {O:Ob} (ok:O.Ok) {H:Hp} {p:Addr} (h:H p=none) (o:HO):Stp O H (upd H p o) := .same ok (same_new h o)
section
variable {K : PySem.W.Frag} {O : Ob} {F F' : Addr → Prop} {H H' : Hp} {v : V} {d : PyData}
theorem Is.stp (s:Stp O H H') (hF:∀ a,F a->F' a) (hM:∀ a,F a->¬ O.M a) (h:Is K F H v d):Is K F' H' v d :=
 h.to (fun a xs f q=>⟨hF a f,s.s a _ q (hM a f)⟩) fun a xs q=>SqT.stay (h:=q) s.t
theorem IsAll.stp {vs:List V} {ds:List PyData} (s:Stp O H H') (hF:∀ a,F a->F' a) (hM:∀ a,F a->¬ O.M a) (h:IsAll K F H vs ds):IsAll K F' H' vs ds :=
 h.to (fun a xs f q=>⟨hF a f,s.s a _ q (hM a f)⟩) fun a xs q=>SqT.stay (h:=q) s.t
theorem Is.weak (h:Is K F H v d) (hF:∀ a,F a->F' a):Is K F' H v d:=h.to (fun a xs f q=>⟨hF a f,q⟩) fun a xs q=>q
theorem IsAll.weak {vs:List V} {ds:List PyData} (h:IsAll K F H vs ds) (hF:∀ a,F a->F' a):IsAll K F' H vs ds:=h.to (fun a xs f q=>⟨hF a f,q⟩) fun a xs q=>q
end
mutual
noncomputable def flat:PyData->Bool
 | .none=>true
 | .bool _=>true
 | .int _=>true
 | .str _=>true
 | .tuple ds=>flats ds
 | _=>false
noncomputable def flats:List PyData->Bool
 | []=>true
 | d::ds=>flat d && flats ds
end
mutual
theorem Is.flat {K:PySem.W.Frag} {F F':Addr->Prop} {H H':Hp} (t:TupStay H H'):∀ {v d},Is K F H v d->L3.flat d=true->Is K F' H' v d
 | _,_,.none,_ => .none
 | _,_,.bool b,_ => .bool b
 | _,_,.int i,_ => .int i
 | _,_,.str x,_ => .str x
 | _,_,.list _ _ _,h=>by simp [L3.flat] at h
 | _,_,.tuple q r,h => .tuple (SqT.stay t q) (IsAll.flats t r (by simpa [L3.flat] using h))
theorem IsAll.flats {K:PySem.W.Frag} {F F':Addr->Prop} {H H':Hp} (t:TupStay H H'):∀ {vs ds},IsAll K F H vs ds->L3.flats ds=true->IsAll K F' H' vs ds
 | _,_,.nil,_ => .nil
 | _,_,.cons r s,h=>by
   rw [L3.flats,Bool.and_eq_true] at h
   exact .cons (Is.flat t r h.1) (IsAll.flats t s h.2)
end
theorem TupStay.refl (H:Hp):TupStay H H:=fun _ _ _ h=>h
section
variable {X : Cx} {pins : List (Addr × Obj)} {σ : St} {H : Hp} {s : Shared} {F : Addr → Prop}
mutual
theorem Is.reads (I:Inv X pins σ H s):∀ {v d} {u:Value},Is X.K F H v d->RelV v u->∃ as,Reads s.heap u d as
 | _,_,_,.none,r=>by cases r;exact ⟨_,.none⟩
 | _,_,_,.bool b,r=>by cases r;exact ⟨_,.bool b⟩
 | _,_,_,.int i,r=>by obtain ⟨t,rfl⟩:=r;exact ⟨_,.int i t⟩
 | _,_,_,.str x,r=>by obtain ⟨t,rfl⟩:=r;exact ⟨_,.str x t⟩
 | _,_,_,.list f q rs,r=>by
   cases r
   obtain ⟨its,rv,⟨o,n,e,c,_,dt⟩,_⟩:=I.list (.of q)
   obtain ⟨as,ra⟩:=IsAll.reads I rs rv
   exact ⟨_,.list e c dt (by simpa using ra)⟩
 | _,_,_,.tuple q rs,r=>by
   cases r
   obtain ⟨its,rv,⟨o,e,c,n,dt⟩,_⟩:=I.tuple q
   obtain ⟨as,ra⟩:=IsAll.reads I rs rv
   exact ⟨_,.tuple e c dt (by simpa using ra)⟩
theorem IsAll.reads (I:Inv X pins σ H s):∀ {vs ds} {us:List Value},IsAll X.K F H vs ds->Vals vs us->∃ as,ReadsAll s.heap us ds as
 | _,_,_,.nil,r=>by cases r;exact ⟨_,.nil⟩
 | _,_,_,.cons h t,r=>by
   cases r with
   | cons r1 r2 =>
     obtain ⟨as,ra⟩:=Is.reads I h r1
     obtain ⟨bs,rb⟩:=IsAll.reads I t r2
     exact ⟨_,.cons ra rb⟩
end
end
noncomputable def IsS (K:PySem.W.Frag) (F:Addr->Prop) (H:Hp) (v:V) (n:Nat):Prop:=∃ a xs,v = .ref a/\xs.length=n/\((F a/\Rd H a (.lst xs))\/∀ H',SqL K H' a xs)
theorem IsS.to {K:PySem.W.Frag} {F F':Addr->Prop} {H H':Hp} {v:V} {n:Nat} (hL:∀ a u,F a->H a=some u->F' a/\H' a=some u) (h:IsS K F H v n):IsS K F' H' v n:=by
 obtain ⟨a,xs,e,l,⟨f,q | ⟨o,q⟩⟩ | q⟩:=h
 ·exact ⟨a,xs,e,l,.inl ⟨(hL a _ f q).1,.inl (hL a _ f q).2⟩⟩
 ·exact ⟨a,xs,e,l,.inl ⟨(hL a _ f q).1,.inr ⟨o,(hL a _ f q).2⟩⟩⟩
 ·exact ⟨a,xs,e,l,.inr q⟩
noncomputable def DkAt (H:Hp) (v:V) (a:Addr) (ks:List Str):Prop:=v = .ref a/\∃ kvs,H a=some (.dK kvs)/\kvs.map (·.1)=ks.map Sum.inr
theorem DkAt.to {H H':Hp} {v:V} {a:Addr} {ks:List Str} (h:DkAt H v a ks) (e:∀ u,H a=some u->H' a=some u):DkAt H' v a ks:=let ⟨h1,kvs,h2,h3⟩:=h; ⟨h1,kvs,e _ h2,h3⟩
inductive R where
 | o (d:PyData)
 | n (ds:List PyData)
noncomputable def R.d:R->PyData
 | .o d=>d
 | .n ds => .list ds
inductive DV where
 | im (d:PyData)
 | own (ds:List PyData)
 | ob
 | scr (n:Nat)
 | dct (ks:List Str)
   | gen (f:Addr->List V->HO) (ds:List PyData)
   | rd (f:Addr->List V->HO) (ds:List PyData)
noncomputable abbrev DSt:=List (Option DV)
noncomputable abbrev DE:=DSt->(R->Prop)->Prop
noncomputable abbrev DT:=DSt->(Bool->Prop)->Prop
noncomputable abbrev DA:=DSt->(List PyData->Prop)->Prop
noncomputable def unM (O:Ob):Addr->Prop:=fun a=>¬ O.M a
noncomputable def SeenV (K:PySem.W.Frag) (O:Ob) (H:Hp) (v:V):DV->Prop
 | .im d=>Is K (unM O) H v d
 | .own ds=>Is K (unM O) H v (.list ds)
 | .ob=>v=O.v
 | .scr n=>IsS K (unM O) H v n
 | .dct ks=>∃ a,¬ O.M a/\DkAt H v a ks
 | .gen f ds=>∃ a xs,v = .ref a/\¬ O.M a/\H a=some (f a xs)/\IsAll K (unM O) H xs ds
 | .rd f ds=>∃ a xs,v = .ref a/\¬ O.M a/\H a=some (f a xs)/\IsAll K (unM O) H xs ds
structure Seen (K:PySem.W.Frag) (O:Ob) (H:Hp) (σ:St) (ρ:DSt):Prop where
 ok:O.Ok
 p:O.P H
 at_:∀ (i:Nat) r,ρ[i]? = some (some r)->∃ v,σ[i]? = some (some v)/\SeenV K O H v r
 len:ρ.length=σ.length
theorem SeenV.stp {K:PySem.W.Frag} {O:Ob} {H H':Hp} {v:V} {r:DV} (s:Stp O H H') (h:SeenV K O H v r):SeenV K O H' v r:=by
 cases r with
 | im d=>exact Is.stp s (fun _ f=>f) (fun _ f=>f) h
 | own ds=>exact Is.stp s (fun _ f=>f) (fun _ f=>f) h
 | ob=>exact h
 | scr n=>exact IsS.to (fun a u f q=>⟨f,s.s a u q f⟩) h
 | dct ks=>obtain ⟨a,n,h⟩:=h;exact ⟨a,n,h.to fun u q=>s.s a u q n⟩
 | gen f ds=>obtain ⟨a,xs,e,n,q,z⟩:=h;exact ⟨a,xs,e,n,s.s a _ q n,IsAll.stp s (fun _ f=>f) (fun _ f=>f) z⟩
 | rd f ds=>obtain ⟨a,xs,e,n,q,z⟩:=h;exact ⟨a,xs,e,n,s.s a _ q n,IsAll.stp s (fun _ f=>f) (fun _ f=>f) z⟩
theorem Seen.stp {K:PySem.W.Frag} {O:Ob} {H H':Hp} {σ:St} {ρ:DSt} (S:Seen K O H σ ρ) (s:Stp O H H'):Seen K O H' σ ρ :=
 ⟨S.ok,s.p S.p,fun i r e=>let ⟨v,h1,h2⟩:=S.at_ i r e; ⟨v,h1,h2.stp s⟩,S.len⟩
noncomputable def Out (K:PySem.W.Frag) (O:Ob) (H H':Hp) (v:V):R->Prop
 | .o d=>Is K (unM O) H' v d
 | .n ds=>∃ a xs,v = .ref a/\H a=none/\H' a=some (.lst xs)/\IsAll K (unM O) H' xs ds
theorem Out.is {K:PySem.W.Frag} {O:Ob} {H H':Hp} {v:V} {r:R} (ok:O.Ok) (p:O.P H) (h:Out K O H H' v r):Is K (unM O) H' v r.d:=by
 cases r with
 | o d=>exact h
 | n ds =>
   obtain ⟨a,xs,rfl,hn,e,q⟩:=h
   exact .list (fun m=>by obtain ⟨o,z⟩:=ok.here H a p m;rw [hn] at z;cases z) e q
noncomputable def ED (K:PySem.W.Frag) (O:Ob) (t:TE) (f:DE):Prop :=
 ∀ (σ:St) (H:Hp) (ρ:DSt) (Q:VK) (Qd:R->Prop),Seen K O H σ ρ->f ρ Qd->(∀ v H' r,Stp O H H'->Out K O H H' v r->Qd r->Q v H')->t σ H Q
noncomputable def TD (K:PySem.W.Frag) (O:Ob) (t:TT) (f:DT):Prop :=
 ∀ (σ:St) (H:Hp) (ρ:DSt) (Q:Bool->Hp->Prop) (Qd:Bool->Prop),Seen K O H σ ρ->f ρ Qd->(∀ b H',Stp O H H'->Qd b->Q b H')->t σ H Q
noncomputable def AD (K:PySem.W.Frag) (O:Ob) (t:TA) (f:DA):Prop :=
 ∀ (σ:St) (H:Hp) (ρ:DSt) (Q:List V->Hp->Prop) (Qd:List PyData->Prop),Seen K O H σ ρ->f ρ Qd->(∀ vs H' ds,Stp O H H'->IsAll K (unM O) H' vs ds->Qd ds->Q vs H')->t σ H Q
section
variable {K : PySem.W.Frag} {O : Ob}
noncomputable def cD (d:PyData):DE:=fun _ Q=>Q (.o d)
theorem z1i {i:Int}:ED K O (tC (.int i)) (cD (.int i)):=fun σ H ρ Q Qd S h k=>k _ H (.o (.int i)) (.refl _ _) (Is.int i) h
theorem z2v {x:Str}:ED K O (tC (.str x)) (cD (.str x)):=fun σ H ρ Q Qd S h k=>k _ H (.o (.str x)) (.refl _ _) (Is.str x) h
theorem z3w {b:Bool}:ED K O (tC (.bl b)) (cD (.bool b)):=fun σ H ρ Q Qd S h k=>k _ H (.o (.bool b)) (.refl _ _) (Is.bool b) h
theorem z0f:ED K O (tC .non) (cD .none):=fun σ H ρ Q Qd S h k=>k _ H (.o .none) (.refl _ _) Is.none h
noncomputable def seeR:DV->Option PyData
 | .im d=>some d
 | .own ds=>some (.list ds)
 | .ob=>none
 | .scr _=>none
 | .dct _=>none
 | .gen _ _=>none
 | .rd _ _=>none
noncomputable def vD (i:Nat):DE:=fun ρ Q=>∃ r d,ρ[i]? = some (some r)/\seeR r=some d/\Q (.o d)
theorem z1o {i:Nat}:ED K O (tVar i) (vD i):=fun σ H ρ Q Qd S h k=>by
 obtain ⟨r,d,e,e2,h⟩:=h
 obtain ⟨v,hv,sv⟩:=S.at_ i r e
 refine ⟨v,hv,k _ H _ (.refl _ _) ?_ h⟩
 cases r with
 | im d'=>cases e2;exact sv
 | own ds=>cases e2;exact sv
 | ob=>cases e2
 | scr n=>cases e2
 | dct ks=>cases e2
 | gen f ds=>cases e2
 | rd f ds=>cases e2
noncomputable def OpD (K:PySem.W.Frag) (O:Ob) (r:R2) (f:PyData->PyData->(R->Prop)->Prop):Prop :=
 ∀ (H:Hp) (x y:V) (d e:PyData) (Q:VK) (Qd:R->Prop),O.Ok->O.P H->Is K (unM O) H x d->Is K (unM O) H y e->f d e Qd->(∀ v H' r,Stp O H H'->Out K O H H' v r->Qd r->Q v H')->r x y H Q
theorem Out.ahead {H H1 H2:Hp} {v:V} {r:R} (ok:O.Ok) (p:O.P H) (s1:Stp O H H1) (h:Out K O H1 H2 v r):Out K O H H2 v r:=by
 cases r with
 | o d=>exact h
 | n ds =>
   obtain ⟨a,xs,rfl,hn,e,q⟩:=h
   have m:¬ O.M a:=fun m=>by obtain ⟨o,z⟩:=ok.here H1 a (s1.p p) m;rw [hn] at z;cases z
   exact ⟨a,xs,rfl,s1.s.free m hn,e,q⟩
noncomputable def opDE (f:PyData->PyData->(R->Prop)->Prop) (fa fb:DE):DE:=fun ρ Q=>fa ρ fun a=>fb ρ fun b=>f a.d b.d Q
theorem zlm {r:R2} {ta tb:TE} {f:PyData->PyData->(R->Prop)->Prop} {fa fb:DE} (hr:OpD K O r f) (ha:ED K O ta fa) (hb:ED K O tb fb):ED K O (tOp r ta tb) (opDE f fa fb):=fun σ H ρ Q Qd S h k=>by
 refine ha σ H ρ _ _ S h fun v H1 a s1 o1 h1=>?_
 refine hb σ H1 ρ _ _ (S.stp s1) h1 fun w H2 b s2 o2 h2=>?_
 have p1:=s1.p S.p
 refine hr H2 v w a.d b.d _ _ S.ok (s2.p p1) (Is.stp s2 (fun _ f=>f) (fun _ f=>f) (o1.is S.ok S.p)) (o2.is S.ok p1) h2 fun z H3 c s3 o3 h3=>?_
 exact k z H3 c ((s1.trans s2).trans s3) (Out.ahead S.ok S.p (s1.trans s2) o3) h3
noncomputable def fn2 (F:PyData->PyData->Option R):PyData->PyData->(R->Prop)->Prop:=fun a b Q=>∃ r,F a b=some r/\Q r
noncomputable def bD (f:DE):DT:=fun ρ Q=>f ρ fun r=>∃ b,r.d = .bool b/\Q b
theorem z2i {t:TE} {f:DE} (h:ED K O t f):TD K O (zgq t) (bD f):=fun σ H ρ Q Qd S hf k=>by
 refine h σ H ρ _ _ S hf fun v H1 r s1 o1 ⟨b,e,q⟩=>?_
 have i:=o1.is S.ok S.p
 rw [e] at i
 cases i
 exact ⟨b,rfl,k b H1 s1 q⟩
theorem zzi {t:TE} {f:DE} (h:ED K O t f):TD K O (tB t) (bD f):=fun σ H ρ Q Qd S hf k=>by
 refine h σ H ρ _ _ S hf fun v H1 r s1 o1 ⟨b,e,q⟩=>?_
 have i:=o1.is S.ok S.p
 rw [e] at i
 cases i
 exact ⟨b,rfl,k b H1 s1 q⟩
noncomputable def andT (f g:DT):DT:=fun ρ Q=>f ρ fun b=>if b=true then g ρ Q else Q false
noncomputable def orT (f g:DT):DT:=fun ρ Q=>f ρ fun b=>if b=true then Q true else g ρ Q
noncomputable def notT (f:DT):DT:=fun ρ Q=>f ρ fun b=>Q (!b)
theorem z0r {t u:TT} {f g:DT} (h:TD K O t f) (h':TD K O u g):TD K O (tAnd t u) (andT f g):=fun σ H ρ Q Qd S hf k=>by
 refine h σ H ρ _ _ S hf fun b H1 s1 q=>?_
 cases b with
 | true=>exact h' σ H1 ρ _ _ (S.stp s1) q fun c H2 s2 q2=>k c H2 (s1.trans s2) q2
 | false=>exact k false H1 s1 q
theorem z4l {t u:TT} {f g:DT} (h:TD K O t f) (h':TD K O u g):TD K O (tOr t u) (orT f g):=fun σ H ρ Q Qd S hf k=>by
 refine h σ H ρ _ _ S hf fun b H1 s1 q=>?_
 cases b with
 | false=>exact h' σ H1 ρ _ _ (S.stp s1) q fun c H2 s2 q2=>k c H2 (s1.trans s2) q2
 | true=>exact k true H1 s1 q
theorem zz9 {t:TT} {f:DT} (h:TD K O t f):TD K O (tNot t) (notT f):=fun σ H ρ Q Qd S hf k=>h σ H ρ _ _ S hf fun b H1 s1 q=>k (!b) H1 s1 q
noncomputable def andV (f g:DE):DE:=fun ρ Q=>f ρ fun r=>∃ b,r.d = .bool b/\if b=true then g ρ Q else Q (.o (.bool false))
theorem zzo {t u:TE} {f g:DE} (h:ED K O t f) (h':ED K O u g):ED K O (zwx t u) (andV f g):=fun σ H ρ Q Qd S hf k=>by
 refine h σ H ρ _ _ S hf fun v H1 r s1 o1 ⟨b,e,q⟩=>?_
 have i:=o1.is S.ok S.p
 rw [e] at i
 cases i
 refine ⟨b,rfl,?_⟩
 cases b with
 | true=>exact h' σ H1 ρ _ _ (S.stp s1) q fun c H2 r s2 o2 q2=>k c H2 r (s1.trans s2) (o2.ahead S.ok S.p s1) q2
 | false=>exact k (.bl false) H1 (.o (.bool false)) s1 (.bool false) q
noncomputable def ifD (c:DT) (f g:DE):DE:=fun ρ Q=>c ρ fun b=>if b=true then f ρ Q else g ρ Q
theorem z4a {c:TT} {t u:TE} {fc:DT} {f g:DE} (hc:TD K O c fc) (h:ED K O t f) (h':ED K O u g):ED K O (tIf c t u) (ifD fc f g):=fun σ H ρ Q Qd S hf k=>by
 refine hc σ H ρ _ _ S hf fun b H1 s1 q=>?_
 cases b with
 | true=>exact h σ H1 ρ _ _ (S.stp s1) q fun v H2 r s2 o2 q2=>k v H2 r (s1.trans s2) (o2.ahead S.ok S.p s1) q2
 | false=>exact h' σ H1 ρ _ _ (S.stp s1) q fun v H2 r s2 o2 q2=>k v H2 r (s1.trans s2) (o2.ahead S.ok S.p s1) q2
noncomputable def aNil:DA:=fun _ Q=>Q []
noncomputable def zcc (f:DE) (g:DA):DA:=fun ρ Q=>f ρ fun r=>g ρ fun ds=>Q (r.d::ds)
theorem z1a:AD K O tNil aNil:=fun σ H ρ Q Qd S h k=>k [] H [] (.refl _ _) .nil h
theorem zzb {t:TE} {u:TA} {f:DE} {g:DA} (h:ED K O t f) (h':AD K O u g):AD K O (zav t u) (zcc f g):=fun σ H ρ Q Qd S hf k=>by
 refine h σ H ρ _ _ S hf fun v H1 r s1 o1 q=>?_
 refine h' σ H1 ρ _ _ (S.stp s1) q fun vs H2 ds s2 o2 q2=>?_
 exact k (v::vs) H2 (r.d::ds) (s1.trans s2) (.cons (Is.stp s2 (fun _ f=>f) (fun _ f=>f) (o1.is S.ok S.p)) o2) q2
noncomputable def tupD (g:DA):DE:=fun ρ Q=>g ρ fun ds=>ds.length<=sizeLine/\Q (.o (.tuple ds))
noncomputable def lstD (g:DA):DE:=fun ρ Q=>g ρ fun ds=>ds.length<=sizeLine/\Q (.n ds)
theorem z3f {u:TA} {g:DA} (h:AD K O u g):ED K O (tTup u) (tupD g):=fun σ H ρ Q Qd S hf k=>by
 refine h σ H ρ _ _ S hf fun vs H1 ds s1 o1 ⟨z,q⟩=>⟨by rw [o1.length];exact z,fun p hp=>?_⟩
 have s2:Stp O H1 (upd H1 p (.tup vs)) := .new S.ok hp _
 exact k _ _ (.o (.tuple ds)) (s1.trans s2) (.tuple (.of zai) (o1.stp s2 (fun _ f=>f) (fun _ f=>f))) q
theorem z1s {u:TA} {g:DA} (h:AD K O u g):ED K O (tLst u) (lstD g):=fun σ H ρ Q Qd S hf k=>by
 refine h σ H ρ _ _ S hf fun vs H1 ds s1 o1 ⟨z,q⟩=>⟨by rw [o1.length];exact z,fun p hp=>?_⟩
 have s2:Stp O H1 (upd H1 p (.lst vs)) := .new S.ok hp _
 have m:¬ O.M p:=fun m=>by obtain ⟨o,z⟩:=S.ok.here H1 p (s1.p S.p) m;rw [hp] at z;cases z
 exact k _ _ (.n ds) (s1.trans s2) ⟨p,vs,rfl,s1.s.free m hp,zai,o1.stp s2 (fun _ f=>f) (fun _ f=>f)⟩ q
noncomputable def zdy (K:PySem.W.Frag) (O:Ob) (r:List V->Hp->VK->Prop) (f:List PyData->(R->Prop)->Prop):Prop :=
 ∀ (H:Hp) (vs:List V) (ds:List PyData) (Q:VK) (Qd:R->Prop),O.Ok->O.P H->IsAll K (unM O) H vs ds->f ds Qd->(∀ v H' r,Stp O H H'->Out K O H H' v r->Qd r->Q v H')->r vs H Q
noncomputable def zbm (f:List PyData->(R->Prop)->Prop) (g:DA):DE:=fun ρ Q=>g ρ fun ds=>f ds Q
theorem zmh {r:List V->Hp->VK->Prop} {u:TA} {f:List PyData->(R->Prop)->Prop} {g:DA} (hr:zdy K O r f) (h:AD K O u g):ED K O (tCB r u) (zbm f g):=fun σ H ρ Q Qd S hf k=>by
 refine h σ H ρ _ _ S hf fun vs H1 ds s1 o1 q=>?_
 exact hr H1 vs ds _ _ S.ok (s1.p S.p) o1 q fun v H2 r s2 o2 q2=>k v H2 r (s1.trans s2) (o2.ahead S.ok S.p s1) q2
noncomputable def fn1 (F:List PyData->Option R):List PyData->(R->Prop)->Prop:=fun ds Q=>∃ r,F ds=some r/\Q r
end
end L3
namespace L3
open PySem PySem.Spec
open PyProof.Rows hiding St
open L2
noncomputable abbrev DG:=PyData->DSt->(DSt->Prop)->Prop
noncomputable def gN (i:Nat):DG:=fun d ρ Q=>Q (ρ.set i (some (.im d)))
noncomputable def gTD:List Nat->List PyData->DSt->(DSt->Prop)->Prop
 | [],[],ρ,Q=>Q ρ
 | i::is,d::ds,ρ,Q=>gTD is ds (ρ.set i (some (.im d))) Q
 | _,_,_,_=>False
noncomputable def gT (is:List Nat):DG:=fun d ρ Q=>∃ ds,d = .tuple ds/\gTD is ds ρ Q
noncomputable def GS (K:PySem.W.Frag) (O:Ob) (t:TG) (g:DG):Prop :=
 ∀ (σ:St) (H:Hp) (ρ:DSt) (v:V) (d:PyData) (Q:St->Hp->Prop) (Qd:DSt->Prop),Seen K O H σ ρ->Is K (unM O) H v d->g d ρ Qd->(∀ σ' ρ',Seen K O H σ' ρ'->Qd ρ'->Q σ' H)->t v σ H Q
section
variable {K : PySem.W.Frag} {O : Ob}
theorem Seen.set {H:Hp} {σ:St} {ρ:DSt} {i:Nat} {v:V} {r:DV} (S:Seen K O H σ ρ) (h:SeenV K O H v r):Seen K O H (σ.set i (some v)) (ρ.set i (some r)):=by
 have hl:=S.len
 refine ⟨S.ok,S.p,fun j r' e=>?_,by rw [List.length_set,List.length_set];exact S.len⟩
 by_cases hj:i=j
 ·subst hj
  have hi:i<ρ.length:=by
   rcases Nat.lt_or_ge i ρ.length with z | z
   ·exact z
   ·rw [List.getElem?_eq_none (by simpa using z)] at e;cases e
  rw [List.getElem?_set_self hi] at e
  cases e
  exact ⟨v,List.getElem?_set_self (by lia),h⟩
 ·rw [List.getElem?_set_ne hj] at e
  obtain ⟨w,h1,h2⟩:=S.at_ j r' e
  exact ⟨w,by rw [List.getElem?_set_ne hj];exact h1,h2⟩
theorem zy2 {i:Nat}:GS K O (za9 i) (gN i):=fun σ H ρ v d Q Qd S i h k=>k _ _ (S.set (r := .im d) i) h
noncomputable def GSs (K:PySem.W.Frag) (O:Ob) (t:TGs) (is:List Nat):Prop :=
 ∀ (σ:St) (H:Hp) (ρ:DSt) (vs:List V) (ds:List PyData) (Q:St->Hp->Prop) (Qd:DSt->Prop),Seen K O H σ ρ->IsAll K (unM O) H vs ds->gTD is ds ρ Qd->(∀ σ' ρ',Seen K O H σ' ρ'->Qd ρ'->Q σ' H)->t vs σ H Q
theorem zyq:GSs K O gNil []:=fun σ H ρ vs ds Q Qd S i h k=>by
 cases i with
 | nil=>exact ⟨rfl,k σ ρ S h⟩
 | cons _ _=>exact h.elim
theorem zuf {i:Nat} {is:List Nat} {t:TGs} (ht:GSs K O t is):GSs K O (zh7 (za9 i) t) (i::is):=fun σ H ρ vs ds Q Qd S h q k=>by
 cases h with
 | nil=>exact q.elim
 | cons h1 h2=>exact ⟨_,_,rfl,ht _ H _ _ _ _ _ (S.set (r := .im _) h1) h2 q k⟩
theorem zj3:∀ {is:List Nat} {ds:List PyData} {ρ:DSt} {Q:DSt->Prop},gTD is ds ρ Q->ds.length=is.length
 | [],[],_,_,_=>rfl
 | [],_::_,_,_,h=>h.elim
 | _::_,[],_,_,h=>h.elim
 | _::is,_::ds,ρ,Q,h=>by
   have e:=zj3 (is:=is) (ds:=ds) (Q:=Q) h
   rw [List.length_cons,List.length_cons,e]
theorem z1r {is:List Nat} {t:TGs} {n:Nat} (hn:is.length=n) (ht:GSs K O t is):GS K O (gTup K n t) (gT is):=fun σ H ρ v d Q Qd S i h k=>by
 obtain ⟨ds,rfl,h⟩:=h
 cases i with
 | tuple q r=>exact ⟨_,_,rfl,q,by rw [r.length,zj3 h];exact hn,ht σ H ρ _ ds Q Qd S r h k⟩
structure Walk (K:PySem.W.Frag) (O:Ob) (H H1:Hp) (J:It) (ds:List PyData) (B:Addr->Prop):Prop where
 st:Stp O H H1
 hb:∀ a,B a->¬ O.M a/\∃ o,H1 a=some o
 stop:∀ H2 i,(∀ a o,B a->H1 a=some o->H2 a=some o)->TupStay H1 H2->ds.length<=i->J.stop i H2
 item:∀ H2 i d,(∀ a o,B a->H1 a=some o->H2 a=some o)->TupStay H1 H2->ds[i]? = some d->(flat d=true\/∀ a o,H1 a=some o->¬ O.M a->H2 a=some o) ->
  J.go i H2/\∀ x H3,J.yld i H2 x H3->Same H2 H3/\Is K (fun a=>¬ O.M a/\(flat d=true\/∃ o,H1 a=some o)) H3 x d
noncomputable abbrev DI:=DSt->(Bool->List PyData->Prop)->Prop
noncomputable def SrcS (K:PySem.W.Frag) (O:Ob) (wi:TI) (f:DI):Prop :=
 ∀ (σ:St) (H:Hp) (ρ:DSt) (R:It->Hp->Prop) (Qd:Bool->List PyData->Prop),Seen K O H σ ρ->f ρ Qd ->
   (∀ (J:It) (H1:Hp) (ds:List PyData) (B:Addr->Prop) (fr:Bool),Walk K O H H1 J ds B->(fr=true->∀ a,B a->H a=none)->Qd fr ds->R J H1)->wi σ H R
end
noncomputable def zaz (h:Nat) (g:DG) (ft:DT) (fe:DE) (ρ:DSt) (Q:List PyData->Prop):List PyData->List PyData->Prop
 | [],acc=>Q acc
 | d::ds,acc=>g d (List.replicate h none++ρ) fun ρ2=>ft ρ2 fun b=>if b=true then fe ρ2 fun r=>acc.length<sizeLine/\zaz h g ft fe ρ Q ds (acc ++ [r.d]) else zaz h g ft fe ρ Q ds acc
noncomputable def zw1 (h:Nat) (f:DI) (g:DG) (ft:DT) (fe:DE):DE:=fun ρ Q=>f ρ fun _ ds=>zaz h g ft fe ρ (fun es=>Q (.n es)) ds []
section
variable {K : PySem.W.Frag} {O : Ob}
theorem zu4 {H:Hp} {σ:St} {ρ:DSt} (S:Seen K O H σ ρ) (h:Nat):Seen K O H (List.replicate h none++σ) (List.replicate h none++ρ):=by
 refine ⟨S.ok,S.p,fun i r e=>?_,by rw [List.length_append,List.length_append,List.length_replicate,List.length_replicate,S.len]⟩
 by_cases hi:i<h
 ·rw [List.getElem?_append_left (by simpa using hi),List.getElem?_replicate,if_pos hi] at e
  cases e
 ·rw [List.getElem?_append_right (by simpa using Nat.le_of_not_lt hi),List.length_replicate] at e
  obtain ⟨v,h1,h2⟩:=S.at_ _ r e
  exact ⟨v,by rw [List.getElem?_append_right (by simpa using Nat.le_of_not_lt hi),List.length_replicate];exact h1,h2⟩
theorem zt0 {H:Hp} {σ:St} {ρ:DSt} {D:Addr} {xs:List V} (S:Seen K O H σ ρ) (hD:H D=none):Seen K (O.plus D (.lst xs)) (upd H D (.lst xs)) σ ρ:=by
 have gr:Same H (upd H D (.lst xs)):=same_new hD _
 refine ⟨S.ok.plus D xs,⟨S.ok.grow _ _ gr S.p,zai⟩,fun i r e=>?_,S.len⟩
 obtain ⟨v,h1,h2⟩:=S.at_ i r e
 have go:∀ d,Is K (unM O) H v d->Is K (unM (O.plus D (.lst xs))) (upd H D (.lst xs)) v d:=fun d z =>
  z.to (fun a ys f q=>⟨fun m=>(by
   rcases m with m | rfl
   ·exact f m
   ·rw [hD] at q;cases q),gr _ _ q⟩) fun a ys q=>SqT.stay (h:=q) fun b u _ hb=>gr b u hb
 refine ⟨v,h1,?_⟩
 cases r with
 | im d=>exact go d h2
 | own ds=>exact go _ h2
 | ob=>exact h2
 | scr n=>exact IsS.to (fun a u f q=>⟨fun m=>(by
  rcases m with m | rfl
  ·exact f m
  ·rw [hD] at q;cases q),gr _ _ q⟩) h2
 | dct ks =>
   obtain ⟨a,n,h2⟩:=h2
   refine ⟨a,fun m=>?_,h2.to fun u q=>gr _ _ q⟩
   rcases m with m | rfl
   ·exact n m
   ·obtain ⟨_,kvs,q,_⟩:=h2
    rw [hD] at q
    cases q
 | gen f ds =>
   obtain ⟨a,ys,e,n,q,z⟩:=h2
   refine ⟨a,ys,e,fun m=>?_,gr _ _ q,z.to (fun a ys f q=>⟨fun m=>(by
    rcases m with m | rfl
    ·exact f m
    ·rw [hD] at q;cases q),gr _ _ q⟩) fun a ys q=>SqT.stay (h:=q) fun b u _ hb=>gr b u hb⟩
   rcases m with m | rfl
   ·exact n m
   ·rw [hD] at q;cases q
 | rd f ds =>
   obtain ⟨a,ys,e,n,q,z⟩:=h2
   refine ⟨a,ys,e,fun m=>?_,gr _ _ q,z.to (fun a ys f q=>⟨fun m=>(by
    rcases m with m | rfl
    ·exact f m
    ·rw [hD] at q;cases q),gr _ _ q⟩) fun a ys q=>SqT.stay (h:=q) fun b u _ hb=>gr b u hb⟩
   rcases m with m | rfl
   ·exact n m
   ·rw [hD] at q;cases q
theorem zzm {h:Nat} {wi:TI} {tg:TG} {tf:TT} {te:TE} {f:DI} {g:DG} {ft:DT} {fe:DE} (hs:SrcS K O wi f) (hg:∀ O':Ob,GS K O' tg g)
 (hf:∀ (D:Addr) (xs:List V),¬ O.M D->TD K (O.plus D (.lst xs)) tf ft) (he:∀ (D:Addr) (xs:List V),¬ O.M D->ED K (O.plus D (.lst xs)) te fe):ED K O (zrf h wi tg tf te) (zw1 h f g ft fe):=by
 intro σ H ρ Q Qd S hq k
 refine hs σ H ρ _ _ S hq fun J H1 ds B fr W _ hgo D hD=>?_
 have S1:=S.stp W.st
 have nM:¬ O.M D:=fun m=>by obtain ⟨o,z⟩:=S.ok.here H1 D S1.p m;rw [hD] at z;cases z
 have aD:∀ a o,H1 a=some o->a ≠ D:=fun a o e z=>by rw [z,hD] at e;cases e
 refine ⟨fun i m ys H2=>m=ds.length - i/\i<=ds.length/\H2 D=some (.lst ys)/\(∀ a o,H1 a=some o->¬ O.M a->H2 a=some o)/\TupStay H1 H2/\Seen K (O.plus D (.lst ys)) H2 σ ρ /\
  ∃ acc,IsAll K (fun a=>¬ (O.M a\/a=D)) H2 ys acc/\zaz h g ft fe ρ (fun es=>Qd (.n es)) (ds.drop i) acc,⟨ds.length,rfl,Nat.zero_le _,zai,fun a o e _=>by rw [zad (aD a o e)];exact e,fun a u _ e=>by rw [zad (aD a u e)];exact e,zt0 S1 hD,[],.nil,by simpa using hgo⟩,?_⟩
 rintro i m ys H2 ⟨rfl,hi,hDy,kp,tst,S2,acc,hacc,go⟩
 refine ⟨hDy,?_⟩
 have kB:∀ a o,B a->H1 a=some o->H2 a=some o:=fun a o b e=>kp a o e (W.hb a b).1
 by_cases hlt:i<ds.length
 ·right
  have hd:ds[i]? = some ds[i]:=List.getElem?_eq_getElem hlt
  rw [List.drop_eq_getElem_cons hlt] at go
  obtain ⟨hgo1,hy⟩:=W.item H2 i ds[i] kB tst hd (.inr kp)
  refine ⟨hgo1,fun x H3 y=>?_⟩
  obtain ⟨sm,ix⟩:=hy x H3 y
  have st3:Stp (O.plus D (.lst ys)) H2 H3 := .same S2.ok sm
  have S3:=S2.stp st3
  have ix':Is K (unM (O.plus D (.lst ys))) H3 x ds[i]:=by
   by_cases hfl:flat ds[i]=true
   ·exact Is.flat (TupStay.refl H3) ix hfl
   ·exact ix.weak fun a ha mm=>by
     rcases mm with mm | mm
     ·exact ha.1 mm
     ·rcases ha.2 with z | ⟨o,z⟩
      ·exact hfl z
      ·exact aD a o z mm
  refine hg _ _ H3 _ x ds[i] _ _ (zu4 S3 h) ix' go fun σ2 ρ2 Sg q=>?_
  refine hf D ys nM σ2 H3 ρ2 _ _ Sg q fun b H4 st4 q4=>?_
  have st34:=st3.trans st4
  have acc4:∀ {H':Hp},Stp (O.plus D (.lst ys)) H2 H'->IsAll K (fun a=>¬ (O.M a\/a=D)) H' ys acc:=fun st=>hacc.stp st (fun _ z=>z) (fun _ z=>z)
  cases b with
  | false =>
    refine ⟨ds.length - (i+1),by lia,rfl,hlt,st34.s D _ hDy |> fun z=>(st34.p S2.p).2,fun a o e n=>?_,fun a u hu e=>st34.t a u hu (tst a u hu e),S2.stp st34,acc,acc4 st34,q4⟩
    exact st34.s a o (kp a o e n) fun mm=>by
     rcases mm with mm | mm
     ·exact n mm
     ·exact aD a o e mm
  | true =>
    refine he D ys nM σ2 H4 ρ2 _ _ (Sg.stp st4) q4 fun yv H5 r st5 o5 ⟨hz,q5⟩=>?_
    have st25:=st34.trans st5
    have S5:=S2.stp st25
    have hD5:H5 D=some (.lst ys):=(st25.p S2.p).2
    have iy:=o5.is (Sg.stp st4).ok (Sg.stp st4).p
    have a5:=acc4 st25
    refine ⟨hD5,by rw [hacc.length];exact hz,ds.length - (i+1),by lia,rfl,hlt,zai,fun a o e n=>?_,fun a u hu e=>?_,?_,acc ++ [r.d],?_,q5⟩
    ·rw [zad (aD a o e)]
     exact st25.s a o (kp a o e n) fun mm=>by
      rcases mm with mm | mm
      ·exact n mm
      ·exact aD a o e mm
    ·rw [zad (aD a u e)]
     exact st25.t a u hu (tst a u hu e)
    ·have p5:O.P (upd H5 D (.lst (ys ++ [yv]))):=S.ok.loc H5 _ (fun a m=>zad fun z=>nM (z ▸ m)) S5.p.1
     refine ⟨S.ok.plus D _,⟨p5,zai⟩,fun j r' e=>?_,S5.len⟩
     obtain ⟨v',h1,h2⟩:=S5.at_ j r' e
     have go:∀ d,Is K (unM (O.plus D (.lst ys))) H5 v' d->Is K (unM (O.plus D (.lst (ys ++ [yv])))) (upd H5 D (.lst (ys ++ [yv]))) v' d:=fun d z =>
      z.to (fun a xs fa qa=>⟨fa,by rw [zad fun z=>fa (.inr z)];exact qa⟩) fun a xs qa=>SqT.stay (h:=qa) fun b u hu hb=>by
       rw [zad fun z=>?_]
       ·exact hb
       ·obtain ⟨us,e1 | ⟨o',e1⟩⟩:=hu <;> (rw [z,hD5] at hb;cases hb;cases e1)
     refine ⟨v',h1,?_⟩
     cases r' with
     | im d=>exact go d h2
     | own es=>exact go _ h2
     | ob=>exact h2
     | scr n=>exact IsS.to (fun a u fa qa=>⟨fa,by rw [zad fun z=>fa (.inr z)];exact qa⟩) h2
     | dct ks=>obtain ⟨a,fa,h2⟩:=h2;exact ⟨a,fa,h2.to fun u qa=>by rw [zad fun z=>fa (.inr z)];exact qa⟩
     | gen f ds =>
       obtain ⟨a,xs,e,fa,q,z⟩:=h2
       refine ⟨a,xs,e,fa,by rw [zad fun z=>fa (.inr z)];exact q,z.to (fun a xs fa qa=>⟨fa,by rw [zad fun z=>fa (.inr z)];exact qa⟩) fun a xs qa=>SqT.stay (h:=qa) fun b u hu hb=>?_⟩
       rw [zad fun z=>?_]
       ·exact hb
       ·obtain ⟨us,e1 | ⟨o',e1⟩⟩:=hu <;> (rw [z,hD5] at hb;cases hb;cases e1)
     | rd f ds =>
       obtain ⟨a,xs,e,fa,q,z⟩:=h2
       refine ⟨a,xs,e,fa,by rw [zad fun z=>fa (.inr z)];exact q,z.to (fun a xs fa qa=>⟨fa,by rw [zad fun z=>fa (.inr z)];exact qa⟩) fun a xs qa=>SqT.stay (h:=qa) fun b u hu hb=>?_⟩
       rw [zad fun z=>?_]
       ·exact hb
       ·obtain ⟨us,e1 | ⟨o',e1⟩⟩:=hu <;> (rw [z,hD5] at hb;cases hb;cases e1)
    ·have mv:∀ {vs es},IsAll K (fun a=>¬ (O.M a\/a=D)) H5 vs es->IsAll K (fun a=>¬ (O.M a\/a=D)) (upd H5 D (.lst (ys ++ [yv]))) vs es:=fun z =>
      z.to (fun a xs fa qa=>⟨fa,by rw [zad fun z=>fa (.inr z)];exact qa⟩) fun a xs qa=>SqT.stay (h:=qa) fun b u hu hb=>by
       rw [zad fun z=>?_]
       ·exact hb
       ·obtain ⟨us,e1 | ⟨o',e1⟩⟩:=hu <;> (rw [z,hD5] at hb;cases hb;cases e1)
     exact mv (a5.snoc iy)
 ·left
  have e:i=ds.length:=by lia
  subst e
  rw [List.drop_length] at go
  refine ⟨W.stop H2 _ kB tst (Nat.le_refl _),k _ H2 (.n acc) ?_ ⟨D,ys,rfl,W.st.s.free nM hD,hDy,hacc.weak fun a z m=>z (.inl m)⟩ go⟩
  refine W.st.trans ⟨fun a o e n=>kp a o e n,fun _=>S2.p.1,tst⟩
end
end L3
namespace L3
open PySem PySem.Spec
open PyProof.Rows hiding St
open L2
section
variable {K : PySem.W.Frag} {O : Ob}
theorem zey {H1 H2:Hp} {xs:List V} {ds:List PyData} {i:Nat} {d:PyData} (h:IsAll K (unM O) H1 xs ds) (hd:ds[i]? = some d) (t:TupStay H1 H2) (c:flat d=true\/∀ a o,H1 a=some o->¬ O.M a->H2 a=some o) :
 ∃ v,xs[i]? = some v/\Is K (fun a=>¬ O.M a/\(flat d=true\/∃ o,H1 a=some o)) H2 v d:=by
 obtain ⟨v,hv,iv⟩:=h.get hd
 refine ⟨v,hv,?_⟩
 rcases c with c | c
 ·exact Is.flat t iv c
 ·exact iv.to (fun a ys f q=>⟨⟨f,.inr ⟨_,q⟩⟩,c a _ q f⟩) fun a ys q=>SqT.stay (h:=q) t
noncomputable def R.isN:R->Bool
 | .n _=>true
 | .o _=>false
noncomputable def srcL (f:DE):DI:=fun ρ Q=>f ρ fun r=>∃ ds,r.d = .list ds/\Q r.isN ds
theorem zwd {t:TE} {f:DE} (h:ED K O t f):SrcS K O (zei K t) (srcL f):=fun σ H ρ R Qd S hf k=>by
 refine h σ H ρ _ _ S hf fun v H1 r st o1 ⟨ds,e,q⟩=>?_
 have i1:=o1.is S.ok S.p
 rw [e] at i1
 cases i1 with
 | list f0 ha hs =>
   rename_i a xs
   refine ⟨a,rfl,⟨xs,.of ha⟩,k (Itl K a) H1 ds (fun b=>b=a) r.isN ⟨st,fun b hb=>by subst hb;exact ⟨f0,_,ha⟩,fun H2 i kb _ hi=>?_,fun H2 i d kb t2 hd c=>?_⟩ (fun z b hb=>?_) q⟩
   ·exact ⟨xs,.of (kb a _ rfl ha),by rw [hs.length];exact hi⟩
   ·obtain ⟨w,hw,iw⟩:=zey (O:=O) hs hd t2 c
    have q2:SqL K H2 a xs := .of (kb a _ rfl ha)
    refine ⟨⟨xs,w,q2,hw⟩,fun x H3 ⟨e3,y⟩=>?_⟩
    subst e3
    have:=y xs q2
    rw [hw] at this
    cases this
    exact ⟨Same.refl _,iw⟩
   ·subst hb
    cases r with
    | o d=>cases z
    | n es =>
      obtain ⟨a',xs',e',hn,_⟩:=o1
      cases e'
      exact hn
noncomputable def srcT (f:DE):DI:=fun ρ Q=>f ρ fun r=>∃ ds,r.d = .tuple ds/\Q true ds
theorem zyd {t:TE} {f:DE} (h:ED K O t f):SrcS K O (iTup K t) (srcT f):=fun σ H ρ R Qd S hf k=>by
 refine h σ H ρ _ _ S hf fun v H1 r st o1 ⟨ds,e,q⟩=>?_
 have i1:=o1.is S.ok S.p
 rw [e] at i1
 cases i1 with
 | tuple ha hs =>
   rename_i a xs
   refine ⟨a,rfl,⟨xs,ha⟩,k (Itt K a) H1 ds (fun _=>False) true ⟨st,fun b hb=>hb.elim,fun H2 i kb t2 hi=>?_,fun H2 i d kb t2 hd c=>?_⟩ (fun z b hb=>hb.elim) q⟩
   ·exact ⟨xs,SqT.stay t2 ha,by rw [hs.length];exact hi⟩
   ·obtain ⟨w,hw,iw⟩:=zey (O:=O) hs hd t2 c
    have q2:SqT K H2 a xs:=SqT.stay t2 ha
    refine ⟨⟨xs,w,q2,hw⟩,fun x H3 ⟨e3,y⟩=>?_⟩
    subst e3
    have:=y xs q2
    rw [hw] at this
    cases this
    exact ⟨Same.refl _,iw⟩
noncomputable def zbl (lo:Int) (n:Nat):List PyData:=(List.range n).map fun k => .int (lo+(k:Nat))
theorem zdn {lo:Int} {n i:Nat} {d:PyData} (h:(zbl lo n)[i]? = some d):i<n/\d = .int (lo+(i:Nat)):=by
 unfold zbl at h
 rw [List.getElem?_map] at h
 by_cases hi:i<n
 ·rw [List.getElem?_range hi] at h
  cases h
  exact ⟨hi,rfl⟩
 ·rw [List.getElem?_eq_none (by simpa using hi)] at h
  cases h
theorem zke {H H1:Hp} (st:Stp O H H1) (lo:Int) (n:Nat):Walk K O H H1 (Itr lo n) (zbl lo n) (fun _=>False) :=
 ⟨st,fun b hb=>hb.elim,fun H2 i _ _ hi=>(show n<=i by simpa [zbl] using hi),fun H2 i d _ t2 hd c=>by
  obtain ⟨hi,rfl⟩:=zdn hd
  refine ⟨hi,fun x H3 ⟨e3,y⟩=>?_⟩
  subst e3 y
  exact ⟨Same.refl _,.int _⟩⟩
noncomputable def zw9 (g:DA):DI:=fun ρ Q=>g ρ fun ds=>∃ j:Int,ds = [.int j]/\-(2 ^ 62)<=j/\j<2 ^ 62/\Q true (zbl 0 j.toNat)
theorem zvh {t:TA} {g:DA} (h:AD K O t g):SrcS K O (zpw t) (zw9 g):=fun σ H ρ R Qd S hf k=>by
 refine h σ H ρ _ _ S hf fun vs H1 ds st is ⟨j,e,b1,b2,q⟩=>?_
 subst e
 cases is with
 | cons i0 is =>
   cases is
   cases i0
   exact ⟨j,rfl,b1,b2,k _ H1 _ _ true (zke st 0 j.toNat) (fun _ _ hb=>hb.elim) q⟩
noncomputable def zwr (g:DA):DI:=fun ρ Q=>g ρ fun ds=>∃ i j:Int,ds = [.int i,.int j]/\(-(2 ^ 62)<=i/\i<2 ^ 62/\-(2 ^ 62)<=j/\j<2 ^ 62)/\Q true (zbl i (j - i).toNat)
theorem zvo {t:TA} {g:DA} (h:AD K O t g):SrcS K O (zwp t) (zwr g):=fun σ H ρ R Qd S hf k=>by
 refine h σ H ρ _ _ S hf fun vs H1 ds st is ⟨i,j,e,b,q⟩=>?_
 subst e
 cases is with
 | cons i0 is =>
   cases is with
   | cons i1 is =>
     cases is
     cases i0
     cases i1
     exact ⟨i,j,rfl,b,k _ H1 _ _ true (zke st i (j - i).toNat) (fun _ _ hb=>hb.elim) q⟩
end
noncomputable def sg (c:Nat):Str:=⟨#[c]⟩
noncomputable def Its (x:Str):It:=⟨fun i _=>i<x.cps.size,fun i H v H'=>H'=H/\∃ c,x.cps[i]? = some c/\v = .str (sg c),fun i _=>x.cps.size<=i⟩
theorem zlr {P:Program} {w:World} {K:PySem.W.Frag} {tg:Expr} {it:Addr} {x:Str} {t:Tok} {ty:String} (hty:["enumerate", "zip", "dict_itemiterator", "dict_reverseitemiterator", "odict_iterator", "itertools.zip_longest", "itertools.pairwise"].contains ty=false)
 (W:∀ A':Around,A'.handled=none->Walks P w A' it [it] [it] x.cps.size (SignAt x) (fun i h=>h.IsStrIter it ty x t i))
 (hself:∀ (A:Around) (i:Nat) (s:Shared) (Q:Value->Shared->Prop) (E:Value->Shared->Prop),s.heap.IsStrIter it ty x t i->Q (.ref it) s->wpAny (model P w) A (pyIter (.ref it)) Q E s) :
 Turn P w K tg (Its x) [it] it (fun i h=>i<=x.cps.size/\h.IsStrIter it ty x t i) where
 mem:=by simp
 obj:=fun i h st b hb=>by
  have e:b=it:=by simpa using hb
  subst e
  obtain ⟨_,o,e,c,d⟩:=st
  exact ⟨o,e,fun v z=>by rw [d] at z;cases z⟩
 keep:=fun i h h' st k=>⟨st.1,by
  obtain ⟨_,o,e,c⟩:=st
  exact ⟨o,k it (by simp) o e,c⟩⟩
 item:=by
  intro X hP hw hK hc i pins s σ H E I hf st hg
  subst hP hw hK
  obtain ⟨f0,f1,f2,f3,f4,f5⟩:=hf it (by simp)
  refine (W X.A (I.ok.hd hc)).item i s _ _ hg st.2 fun v h' tk hv st' kk=>?_
  obtain ⟨c,u,hcx,rfl⟩:=hv
  have I1:Inv X pins σ H { s with heap:=h',toks:=tk }:=I.turned (fun b o hb e=>kk b o (by simpa using hb) e) f0 f1 f3 f4 f5
  obtain ⟨o,e,hcl,hdt⟩:=id st'
  exact ⟨_,rfl,zlk (s:={ s with heap:=h',toks:=tk }) e hcl hdt hty ⟨.str (sg c),H,I1,⟨u,rfl⟩,⟨rfl,c,hcx,rfl⟩,⟨hg,st'⟩,fun b hb=>(hf b hb).1⟩⟩
 done:=by
  intro X hP hw hK hc i pins s σ H E I hf st hg
  subst hP hw hK
  obtain ⟨f0,f1,f2,f3,f4,f5⟩:=hf it (by simp)
  have hi:i=x.cps.size:=Nat.le_antisymm st.1 hg
  subst hi
  exact (W X.A (I.ok.hd hc)).done s _ _ st.2 fun h' tk kk=>⟨rfl,I.turned (fun b o hb e=>kk b o (by simpa using hb) e) f0 f1 f3 f4 f5⟩
 self:=fun A i s Q E st h=>hself A i s Q E st.2 h
noncomputable def iStr (t:TE):TI:=fun σ H R=>t σ H fun v H1=>∃ x,v = .str x/\R (Its x) H1
theorem zz4 {X:Cx} {tg l:Expr} {tl:TE} (hl:PE X l tl):PI X tg l (iStr tl):=by
 intro pins s σ H R I h
 refine thn (hl pins s σ H _ I h) fun v s1 ⟨y,H1,I1,r1,q1⟩=>?_
 obtain ⟨x,e,q⟩:=q1
 subst e
 obtain ⟨t,rfl⟩:=r1
 have fin:∀ (o:Obj) (T:Nat->Heap->Prop),Turn X.prog X.w X.K tg (Its x) [s1.heap.objs.size] s1.heap.objs.size T->T 0 (s1.heap.push o)->PIE X pins σ tg R (.ref s1.heap.objs.size) { s1 with heap:=s1.heap.push o }:=fun o T hT h0=>by
  refine ⟨s1.heap.objs.size,[s1.heap.objs.size],T,Its x,H1,rfl,I1.kept (t':=s1.toks) fun b o e=>Heap.get?_push_of_some _ e,hT,h0,fun b hb=>?_,q⟩
  have e:b=s1.heap.objs.size:=by simpa using hb
  subst e
  exact I1.fpOk (Nat.le_refl _) (I1.hok.fresh (Nat.le_refl _))
 cases ha:x.cps.all (· < 128)
 ·exact wpAny_pyIter_wide ha (fin _ _ (zlr (by decide) (fun A' hA=>Walks.strWide hA _ x t) fun _ _ _ _ _ st h=>wpAny_pyIter_striter_wide st h) ⟨Nat.zero_le _,_,Heap.get?_push_size _ rfl,rfl,rfl⟩)
 ·exact wpAny_pyIter_ascii ha (fin _ _ (zlr (by decide) (fun A' hA=>Walks.strAscii hA _ x t) fun _ _ _ _ _ st h=>wpAny_pyIter_striter_ascii st h) ⟨Nat.zero_le _,_,Heap.get?_push_size _ rfl,rfl,rfl⟩)
noncomputable def sgs (x:Str):List PyData:=x.cps.toList.map fun c => .str (sg c)
noncomputable def srcS (f:DE):DI:=fun ρ Q=>f ρ fun r=>∃ x,r.d = .str x/\Q true (sgs x)
theorem zzf {K:PySem.W.Frag} {O:Ob} {t:TE} {f:DE} (h:ED K O t f):SrcS K O (iStr t) (srcS f):=fun σ H ρ R Qd S hf k=>by
 refine h σ H ρ _ _ S hf fun v H1 r st o1 ⟨x,e,q⟩=>?_
 have i1:=o1.is S.ok S.p
 rw [e] at i1
 cases i1
 refine ⟨x,rfl,k (Its x) H1 (sgs x) (fun _=>False) true ⟨st,fun b hb=>hb.elim,fun H2 i _ _ hi=>(show x.cps.size<=i by simpa [sgs] using hi),fun H2 i d _ t2 hd c=>?_⟩ (fun _ _ hb=>hb.elim) q⟩
 unfold sgs at hd
 rw [List.getElem?_map] at hd
 obtain ⟨n,hn,rfl⟩:=Option.map_eq_some_iff.mp hd
 have hn':x.cps[i]? = some n:=by simpa using hn
 have hi:i<x.cps.size:=by
  obtain ⟨z,_⟩:=Array.getElem?_eq_some_iff.mp hn'
  exact z
 refine ⟨hi,fun y H3 ⟨e3,n',h1,h2⟩=>?_⟩
 subst e3 h2
 rw [hn'] at h1
 cases h1
 exact ⟨Same.refl _,.str _⟩
structure DEnds where
 nx:DSt->Prop
 rt:R->Prop
 bk:DSt->Prop:=fun _=>False
 ct:DSt->Prop:=fun _=>False
noncomputable abbrev DS:=DEnds->DSt->Prop
noncomputable def unO (O:Ob) (A:Nat->Addr->Prop):Addr->Prop:=fun a=>¬ O.M a/\∀ j,¬ A j a
noncomputable def OwnO (o:HO):Prop:=∀ us,o ≠ .tup us/\∀ o',o ≠ .frz o' (.tup us)
theorem OwnO.lst {xs:List V}:OwnO (.lst xs):=fun _=>⟨fun z=>(nomatch z),fun _ z=>(nomatch z)⟩
theorem OwnO.ext {φ:Heap->Prop}:OwnO (.ext φ):=fun _=>⟨fun z=>(nomatch z),fun _ z=>(nomatch z)⟩
noncomputable def RepV (K:PySem.W.Frag) (O:Ob) (A:Nat->Addr->Prop) (H:Hp) (i:Nat) (v:V):DV->Prop
 | .im d=>Is K (unO O A) H v d
 | .own ds=>∃ a xs,v = .ref a/\A i a/\H a=some (.lst xs)/\IsAll K (unO O A) H xs ds
 | .ob=>v=O.v
 | .scr n=>IsS K (unO O A) H v n
 | .dct ks=>∃ a,A i a/\DkAt H v a ks
 | .gen f ds=>∃ a xs,v = .ref a/\A i a/\H a=some (f a xs)/\IsAll K (unO O A) H xs ds
 | .rd f ds=>∃ a xs,v = .ref a/\unO O A a/\H a=some (f a xs)/\IsAll K (unO O A) H xs ds
structure Rep (K:PySem.W.Frag) (O:Ob) (H₀:Hp) (A:Nat->Addr->Prop) (H:Hp) (σ:St) (ρ:DSt):Prop where
 ok:O.Ok
 p:O.P H
 p0:O.P H₀
 st:Stp O H₀ H
 dis:∀ i j a,A i a->A j a->i=j
 own:∀ i a,A i a->H₀ a=none/\(∃ o,H a=some o/\OwnO o)/\¬ O.M a
 at_:∀ (i:Nat) r,ρ[i]? = some (some r)->∃ v,σ[i]? = some (some v)/\RepV K O A H i v r
 len:ρ.length=σ.length
noncomputable def Frm (O:Ob) (A:Nat->Addr->Prop) (H:Hp) (A':Nat->Addr->Prop) (H':Hp):Prop:=∀ a o,H a=some o->unO O A a->H' a=some o/\unO O A' a
theorem Frm.refl {O:Ob} {A:Nat->Addr->Prop} {H:Hp}:Frm O A H A H:=fun _ _ h u=>⟨h,u⟩
theorem Frm.trans {O:Ob} {A A1 A2:Nat->Addr->Prop} {H H1 H2:Hp} (a:Frm O A H A1 H1) (b:Frm O A1 H1 A2 H2):Frm O A H A2 H2:=fun c o h u=>let ⟨h1,u1⟩:=a c o h u;b c o h1 u1
structure Post (K:PySem.W.Frag) (O:Ob) (H₀:Hp) (A:Nat->Addr->Prop) (H:Hp) (D:Ends) (Dd:DEnds):Prop where
 nx:∀ A' σ' H' ρ',Rep K O H₀ A' H' σ' ρ'->Frm O A H A' H'->Dd.nx ρ'->D.nx σ' H'
 bk:∀ A' σ' H' ρ',Rep K O H₀ A' H' σ' ρ'->Frm O A H A' H'->Dd.bk ρ'->D.bk σ' H'
 ct:∀ A' σ' H' ρ',Rep K O H₀ A' H' σ' ρ'->Frm O A H A' H'->Dd.ct ρ'->D.ct σ' H'
 rt:∀ H' v r,Stp O H₀ H'->Out K O H₀ H' v r->Dd.rt r->D.rt v H'
noncomputable def SD (K:PySem.W.Frag) (O:Ob) (t:TS) (g:DS):Prop :=
 ∀ (H₀:Hp) (A:Nat->Addr->Prop) (σ:St) (H:Hp) (ρ:DSt) (D:Ends) (Dd:DEnds),Rep K O H₀ A H σ ρ->g Dd ρ->Post K O H₀ A H D Dd->t D σ H
section
variable {K : PySem.W.Frag} {O : Ob} {H₀ H H' : Hp} {A : Nat → Addr → Prop} {σ : St} {ρ : DSt}
theorem Rep.seen (r:Rep K O H₀ A H σ ρ):Seen K O H σ ρ:=by
 refine ⟨r.ok,r.p,fun i x e=>?_,r.len⟩
 obtain ⟨v,hv,h⟩:=r.at_ i x e
 refine ⟨v,hv,?_⟩
 cases x with
 | im d=>exact h.weak fun a u=>u.1
 | own ds =>
   obtain ⟨a,xs,rfl,ha,hl,hs⟩:=h
   exact .list (r.own i a ha).2.2 hl (hs.weak fun a u=>u.1)
 | ob=>exact h
 | scr n=>exact IsS.to (fun a u f q=>⟨f.1,q⟩) h
 | dct ks=>obtain ⟨a,ha,h⟩:=h;exact ⟨a,(r.own i a ha).2.2,h⟩
 | gen f ds=>obtain ⟨a,xs,e,ha,q,z⟩:=h;exact ⟨a,xs,e,(r.own i a ha).2.2,q,z.weak fun a u=>u.1⟩
 | rd f ds=>obtain ⟨a,xs,e,ha,q,z⟩:=h;exact ⟨a,xs,e,ha.1,q,z.weak fun a u=>u.1⟩
theorem Rep.stp (r:Rep K O H₀ A H σ ρ) (s:Stp O H H'):Rep K O H₀ A H' σ ρ:=by
 refine ⟨r.ok,s.p r.p,r.p0,r.st.trans s,r.dis,fun i a ha=>?_,fun i x e=>?_,r.len⟩
 ·obtain ⟨h0,⟨xs,hx,ho⟩,hm⟩:=r.own i a ha
  exact ⟨h0,⟨xs,s.s a _ hx hm,ho⟩,hm⟩
 ·obtain ⟨v,hv,h⟩:=r.at_ i x e
  refine ⟨v,hv,?_⟩
  cases x with
  | im d=>exact Is.stp s (fun _ z=>z) (fun _ z=>z.1) h
  | own ds =>
    obtain ⟨a,xs,rfl,ha,hl,hs⟩:=h
    exact ⟨a,xs,rfl,ha,s.s a _ hl (r.own i a ha).2.2,hs.stp s (fun _ z=>z) (fun _ z=>z.1)⟩
  | ob=>exact h
  | scr n=>exact IsS.to (fun a u f q=>⟨f,s.s a u q f.1⟩) h
  | dct ks=>obtain ⟨a,ha,h⟩:=h;exact ⟨a,ha,h.to fun u q=>s.s a u q (r.own i a ha).2.2⟩
  | gen f ds=>obtain ⟨a,xs,e,ha,q,z⟩:=h;exact ⟨a,xs,e,ha,s.s a _ q (r.own i a ha).2.2,z.stp s (fun _ z=>z) (fun _ z=>z.1)⟩
  | rd f ds=>obtain ⟨a,xs,e,ha,q,z⟩:=h;exact ⟨a,xs,e,ha,s.s a _ q ha.1,z.stp s (fun _ z=>z) (fun _ z=>z.1)⟩
theorem Frm.stp (s:Stp O H H'):Frm O A H A H':=fun a o e u=>⟨s.s a o e u.1,u⟩
theorem Rep.setIm {i:Nat} {v:V} {d:PyData} (r:Rep K O H₀ A H σ ρ) (h:Is K (unO O A) H v d):Rep K O H₀ (fun j a=>j ≠ i/\A j a) H (σ.set i (some v)) (ρ.set i (some (.im d))):=by
 have un:∀ a,unO O A a->unO O (fun j a=>j ≠ i/\A j a) a:=fun a u=>⟨u.1,fun j z=>u.2 j z.2⟩
 refine ⟨r.ok,r.p,r.p0,r.st,fun j k a x y=>r.dis j k a x.2 y.2,fun j a x=>r.own j a x.2,fun j x e=>?_,by rw [List.length_set,List.length_set];exact r.len⟩
 by_cases hj:i=j
 ·subst hj
  have hi:i<ρ.length:=by
   rcases Nat.lt_or_ge i ρ.length with z | z
   ·exact z
   ·rw [List.getElem?_eq_none (by simpa using z)] at e;cases e
  rw [List.getElem?_set_self hi] at e
  cases e
  exact ⟨v,List.getElem?_set_self (by have:=r.len;lia),h.weak un⟩
 ·rw [List.getElem?_set_ne hj] at e
  obtain ⟨w,h1,h2⟩:=r.at_ j x e
  refine ⟨w,by rw [List.getElem?_set_ne hj];exact h1,?_⟩
  cases x with
  | im d=>exact h2.weak un
  | own ds =>
    obtain ⟨a,xs,rfl,ha,hl,hs⟩:=h2
    exact ⟨a,xs,rfl,⟨fun z=>hj z.symm,ha⟩,hl,hs.weak un⟩
  | ob=>exact h2
  | scr n=>exact IsS.to (fun a u f q=>⟨un a f,q⟩) h2
  | dct ks=>obtain ⟨a,ha,h2⟩:=h2;exact ⟨a,⟨fun z=>hj z.symm,ha⟩,h2⟩
  | gen f ds=>obtain ⟨a,xs,e,ha,q,z⟩:=h2;exact ⟨a,xs,e,⟨fun z=>hj z.symm,ha⟩,q,z.weak un⟩
  | rd f ds=>obtain ⟨a,xs,e,ha,q,z⟩:=h2;exact ⟨a,xs,e,un a ha,q,z.weak un⟩
theorem Rep.setOwn {i:Nat} {a:Addr} {xs:List V} {ds:List PyData} (r:Rep K O H₀ A H σ ρ) (s:Stp O H H') (hn:H a=none) (hl:H' a=some (.lst xs)) (hf:IsAll K (unM O) H' xs ds) (fl:flats ds=true) :
 Rep K O H₀ (fun j b=>(j ≠ i/\A j b)\/(j=i/\b=a)) H' (σ.set i (some (.ref a))) (ρ.set i (some (.own ds))):=by
 have hm:¬ O.M a:=fun m=>by obtain ⟨o,z⟩:=r.ok.here H a r.p m;rw [hn] at z;cases z
 have new:∀ j,¬ A j a:=fun j z=>by obtain ⟨_,⟨ys,q,_⟩,_⟩:=r.own j a z;rw [hn] at q;cases q
 have un:∀ b o,H b=some o->unO O A b->unO O (fun j b=>(j ≠ i/\A j b)\/(j=i/\b=a)) b:=fun b o e u=>⟨u.1,fun j z=>by
  rcases z with z | z
  ·exact u.2 j z.2
  ·rw [z.2,hn] at e;cases e⟩
 have mv:∀ {v d},Is K (unO O A) H v d->Is K (unO O (fun j b=>(j ≠ i/\A j b)\/(j=i/\b=a))) H' v d:=fun z =>
  z.to (fun b ys f q=>⟨un b _ q f,s.s b _ q f.1⟩) fun b ys q=>SqT.stay (h:=q) s.t
 have mvs:∀ {v d},IsAll K (unO O A) H v d->IsAll K (unO O (fun j b=>(j ≠ i/\A j b)\/(j=i/\b=a))) H' v d:=fun z =>
  z.to (fun b ys f q=>⟨un b _ q f,s.s b _ q f.1⟩) fun b ys q=>SqT.stay (h:=q) s.t
 refine ⟨r.ok,s.p r.p,r.p0,r.st.trans s,fun j k b x y=>?_,fun j b x=>?_,fun j x e=>?_,by rw [List.length_set,List.length_set];exact r.len⟩
 ·rcases x with x | x <;> rcases y with y | y
  ·exact r.dis j k b x.2 y.2
  ·exact absurd (y.2 ▸ x.2) (new j)
  ·exact absurd (x.2 ▸ y.2) (new k)
  ·exact x.1.trans y.1.symm
 ·rcases x with x | x
  ·obtain ⟨h0,⟨ys,q,ho⟩,m⟩:=r.own j b x.2
   exact ⟨h0,⟨ys,s.s b _ q m,ho⟩,m⟩
  ·obtain ⟨rfl,rfl⟩:=x
   exact ⟨r.st.s.free hm hn,⟨_,hl,.lst⟩,hm⟩
 ·by_cases hj:i=j
  ·subst hj
   have hi:i<ρ.length:=by
    rcases Nat.lt_or_ge i ρ.length with z | z
    ·exact z
    ·rw [List.getElem?_eq_none (by simpa using z)] at e;cases e
   rw [List.getElem?_set_self hi] at e
   cases e
   exact ⟨.ref a,List.getElem?_set_self (by have:=r.len;lia),a,xs,rfl,.inr ⟨rfl,rfl⟩,hl,IsAll.flats (TupStay.refl H') hf fl⟩
  ·rw [List.getElem?_set_ne hj] at e
   obtain ⟨w,h1,h2⟩:=r.at_ j x e
   refine ⟨w,by rw [List.getElem?_set_ne hj];exact h1,?_⟩
   cases x with
   | im d=>exact mv h2
   | own es =>
     obtain ⟨b,ys,rfl,hb,hlb,hs⟩:=h2
     exact ⟨b,ys,rfl,.inl ⟨fun z=>hj z.symm,hb⟩,s.s b _ hlb (r.own j b hb).2.2,mvs hs⟩
   | ob=>exact h2
   | scr n=>exact IsS.to (fun b u f q=>⟨un b u q f,s.s b u q f.1⟩) h2
   | dct ks=>obtain ⟨b,hb,h2⟩:=h2;exact ⟨b,.inl ⟨fun z=>hj z.symm,hb⟩,h2.to fun u q=>s.s b u q (r.own j b hb).2.2⟩
   | gen f ds=>obtain ⟨b,xs,e,hb,q,z⟩:=h2;exact ⟨b,xs,e,.inl ⟨fun z=>hj z.symm,hb⟩,s.s b _ q (r.own j b hb).2.2,mvs z⟩
   | rd f ds=>obtain ⟨b,xs,e,hb,q,z⟩:=h2;exact ⟨b,xs,e,un b _ q hb,s.s b _ q hb.1,mvs z⟩
theorem Frm.setIm {i:Nat} (s:Stp O H H'):Frm O A H (fun j a=>j ≠ i/\A j a) H':=fun a o e u=>⟨s.s a o e u.1,u.1,fun j z=>u.2 j z.2⟩
theorem Frm.setOwn {i:Nat} {a:Addr} (s:Stp O H H') (hn:H a=none):Frm O A H (fun j b=>(j ≠ i/\A j b)\/(j=i/\b=a)) H':=fun b o e u=>⟨s.s b o e u.1,u.1,fun j z=>by
 rcases z with z | z
 ·exact u.2 j z.2
 ·rw [z.2,hn] at e;cases e⟩
theorem Rep.change {i:Nat} {a:Addr} {ys:List V} {ds es:List PyData} (r:Rep K O H₀ A H σ ρ) (e:ρ[i]? = some (some (.own ds))) (hv:σ[i]? = some (some (.ref a))) (ha:A i a) (hs:IsAll K (unO O A) H ys es) :
 Rep K O H₀ A (upd H a (.lst ys)) σ (ρ.set i (some (.own es))):=by
 obtain ⟨h0,⟨oo,hz,hoo⟩,hm⟩:=r.own i a ha
 have ts:TupStay H (upd H a (.lst ys)):=fun b u hu hb=>by
  rw [zad fun z=>?_]
  ·exact hb
  ·rw [z,hz] at hb
   cases hb
   obtain ⟨us,e1 | ⟨o',e1⟩⟩:=hu
   ·exact absurd e1 (hoo us).1
   ·exact absurd e1 ((hoo us).2 o')
 have mv:∀ {v d},Is K (unO O A) H v d->Is K (unO O A) (upd H a (.lst ys)) v d:=fun z=>z.to (fun b us f q=>⟨f,by rw [zad (show b ≠ a from fun w=>f.2 i (by rw [w];exact ha))];exact q⟩) fun b us q=>SqT.stay (h:=q) ts
 have mvs:∀ {v d},IsAll K (unO O A) H v d->IsAll K (unO O A) (upd H a (.lst ys)) v d:=fun z=>z.to (fun b us f q=>⟨f,by rw [zad (show b ≠ a from fun w=>f.2 i (by rw [w];exact ha))];exact q⟩) fun b us q=>SqT.stay (h:=q) ts
 have pp:O.P (upd H a (.lst ys)):=r.ok.loc H _ (fun b m=>zad fun z=>hm (z ▸ m)) r.p
 refine ⟨r.ok,pp,r.p0,⟨fun b o hb n=>?_,fun _=>pp,fun b u hu hb=>ts b u hu (r.st.t b u hu hb)⟩,r.dis,fun j b hb=>?_,fun j x ej=>?_,by rw [List.length_set];exact r.len⟩
 ·rw [zad fun z=>?_]
  ·exact r.st.s b o hb n
  ·rw [z,h0] at hb;cases hb
 ·obtain ⟨k0,⟨us,k1,ko⟩,k2⟩:=r.own j b hb
  by_cases hba:b=a
  ·subst hba;exact ⟨k0,⟨_,zai,.lst⟩,k2⟩
  ·exact ⟨k0,⟨us,by rw [zad hba];exact k1,ko⟩,k2⟩
 ·by_cases hj:i=j
  ·subst hj
   have hi:i<ρ.length:=(List.getElem?_eq_some_iff.mp e).1
   rw [List.getElem?_set_self hi] at ej
   cases ej
   exact ⟨.ref a,hv,a,ys,rfl,ha,zai,mvs hs⟩
  ·rw [List.getElem?_set_ne hj] at ej
   obtain ⟨w,h1,h2⟩:=r.at_ j x ej
   refine ⟨w,h1,?_⟩
   cases x with
   | im d=>exact mv h2
   | own fs =>
     obtain ⟨b,us,rfl,hb,hlb,hs2⟩:=h2
     exact ⟨b,us,rfl,hb,by rw [zad (show b ≠ a from fun z=>hj (r.dis i j a ha (by rw [<- z];exact hb)))];exact hlb,mvs hs2⟩
   | ob=>exact h2
   | scr n=>exact IsS.to (fun b u f q=>⟨f,by rw [zad (show b ≠ a from fun w=>f.2 i (by rw [w];exact ha))];exact q⟩) h2
   | dct ks=>obtain ⟨b,hb,h2⟩:=h2;exact ⟨b,hb,h2.to fun u q=>by rw [zad (show b ≠ a from fun z=>hj (r.dis i j a ha (by rw [<- z];exact hb)))];exact q⟩
   | gen f ds=>obtain ⟨b,xs,e,hb,q,z⟩:=h2;exact ⟨b,xs,e,hb,by rw [zad (show b ≠ a from fun z=>hj (r.dis i j a ha (by rw [<- z];exact hb)))];exact q,mvs z⟩
   | rd f ds=>obtain ⟨b,xs,e,hb,q,z⟩:=h2;exact ⟨b,xs,e,hb,by rw [zad (show b ≠ a from fun w=>hb.2 i (by rw [w];exact ha))];exact q,mvs z⟩
theorem Frm.change {i:Nat} {a:Addr} {o:HO} (ha:A i a):Frm O A H A (upd H a o):=fun b u e n=>⟨by rw [zad (show b ≠ a from fun z=>n.2 i (by rw [z];exact ha))];exact e,n⟩
theorem Rep.disown {i:Nat} {ds:List PyData} (r:Rep K O H₀ A H σ ρ) (e:ρ[i]? = some (some (.own ds))):Rep K O H₀ (fun j a=>j ≠ i/\A j a) H σ (ρ.set i (some (.im (.list ds)))):=by
 have un:∀ a,unO O A a->unO O (fun j a=>j ≠ i/\A j a) a:=fun a u=>⟨u.1,fun j z=>u.2 j z.2⟩
 refine ⟨r.ok,r.p,r.p0,r.st,fun j k a x y=>r.dis j k a x.2 y.2,fun j a x=>r.own j a x.2,fun j x ej=>?_,by rw [List.length_set];exact r.len⟩
 by_cases hj:i=j
 ·subst hj
  have hi:i<ρ.length:=(List.getElem?_eq_some_iff.mp e).1
  rw [List.getElem?_set_self hi] at ej
  cases ej
  obtain ⟨w,h1,h2⟩:=r.at_ i _ e
  obtain ⟨a,xs,rfl,ha,hl,hs⟩:=h2
  exact ⟨.ref a,h1,.list ⟨(r.own i a ha).2.2,fun j z=>z.1 (r.dis j i a z.2 ha)⟩ hl (hs.weak un)⟩
 ·rw [List.getElem?_set_ne hj] at ej
  obtain ⟨w,h1,h2⟩:=r.at_ j x ej
  refine ⟨w,h1,?_⟩
  cases x with
  | im d=>exact h2.weak un
  | own fs =>
    obtain ⟨b,us,rfl,hb,hlb,hs2⟩:=h2
    exact ⟨b,us,rfl,⟨fun z=>hj z.symm,hb⟩,hlb,hs2.weak un⟩
  | ob=>exact h2
  | scr n=>exact IsS.to (fun a u f q=>⟨un a f,q⟩) h2
  | dct ks=>obtain ⟨b,hb,h2⟩:=h2;exact ⟨b,⟨fun z=>hj z.symm,hb⟩,h2⟩
  | gen f ds=>obtain ⟨b,xs,e,hb,q,z⟩:=h2;exact ⟨b,xs,e,⟨fun z=>hj z.symm,hb⟩,q,z.weak un⟩
  | rd f ds=>obtain ⟨b,xs,e,hb,q,z⟩:=h2;exact ⟨b,xs,e,un b hb,q,z.weak un⟩
end
section
variable {K : PySem.W.Frag} {O : Ob}
theorem Post.frm {H₀:Hp} {A A1:Nat->Addr->Prop} {H H1:Hp} {D:Ends} {Dd:DEnds} (P:Post K O H₀ A H D Dd) (f:Frm O A H A1 H1):Post K O H₀ A1 H1 D Dd :=
 ⟨fun A' σ' H' ρ' r g=>P.nx A' σ' H' ρ' r (f.trans g),fun A' σ' H' ρ' r g=>P.bk A' σ' H' ρ' r (f.trans g),fun A' σ' H' ρ' r g=>P.ct A' σ' H' ρ' r (f.trans g),P.rt⟩
noncomputable def seqD (g k:DS):DS:=fun Dd ρ=>g { Dd with nx:=k Dd } ρ
theorem z2l {t u:TS} {g k:DS} (h:SD K O t g) (h':SD K O u k):SD K O (tSeq t u) (seqD g k):=fun H₀ A σ H ρ D Dd r q P =>
 h H₀ A σ H ρ _ _ r q ⟨fun A' σ' H' ρ' r' f q'=>h' H₀ A' σ' H' ρ' D Dd r' q' (P.frm f),P.bk,P.ct,P.rt⟩
theorem zzz:SD K O zlc (fun Dd ρ=>Dd.nx ρ):=fun H₀ A σ H ρ D Dd r q P=>P.nx A σ H ρ r .refl q
theorem zzl:SD K O zw0 (fun Dd ρ=>Dd.ct ρ):=fun H₀ A σ H ρ D Dd r q P=>P.ct A σ H ρ r .refl q
noncomputable def ifS (c:DT) (g k:DS):DS:=fun Dd ρ=>c ρ fun b=>if b=true then g Dd ρ else k Dd ρ
theorem z4i {c:TT} {t u:TS} {fc:DT} {g k:DS} (hc:TD K O c fc) (h:SD K O t g) (h':SD K O u k):SD K O (tIfS c t u) (ifS fc g k):=fun H₀ A σ H ρ D Dd r q P=>by
 refine hc σ H ρ _ _ r.seen q fun b H1 s1 q1=>?_
 cases b with
 | true=>exact h H₀ A σ H1 ρ D Dd (r.stp s1) q1 (P.frm (.stp s1))
 | false=>exact h' H₀ A σ H1 ρ D Dd (r.stp s1) q1 (P.frm (.stp s1))
noncomputable def retS (f:DE):DS:=fun Dd ρ=>f ρ Dd.rt
theorem z1u {t:TE} {f:DE} (h:ED K O t f):SD K O (tRet t) (retS f):=fun H₀ A σ H ρ D Dd r q P=>by
 refine h σ H ρ _ _ r.seen q fun v H1 x s1 o1 q1=>P.rt H1 v x (r.st.trans s1) (o1.ahead r.ok r.p0 r.st) q1
noncomputable def asgS (i:Nat) (f:DE):DS:=fun Dd ρ=>f ρ fun r=>match r with
 | .o d=>flat d=true/\Dd.nx (ρ.set i (some (.im d)))
 | .n ds=>flats ds=true/\Dd.nx (ρ.set i (some (.own ds)))
theorem z2s {i:Nat} {t:TE} {f:DE} (h:ED K O t f):SD K O (tAsg t (za9 i)) (asgS i f):=fun H₀ A σ H ρ D Dd r q P=>by
 refine h σ H ρ _ _ r.seen q fun v H1 x s1 o1 q1=>?_
 cases x with
 | o d =>
   obtain ⟨fl,q1⟩:=q1
   exact P.nx _ _ H1 _ ((r.stp s1).setIm (Is.flat (TupStay.refl H1) o1 fl)) (.setIm s1) q1
 | n ds =>
   obtain ⟨fl,q1⟩:=q1
   obtain ⟨a,xs,rfl,hn,hl,hs⟩:=o1
   exact P.nx _ _ H1 _ (r.setOwn s1 hn hl hs fl) (.setOwn s1 hn) q1
noncomputable def appS (i:Nat) (f:DE):DS:=fun Dd ρ=>∃ ds,ρ[i]? = some (some (.own ds))/\f ρ fun r=>flat r.d=true/\ds.length<sizeLine/\Dd.nx (ρ.set i (some (.own (ds ++ [r.d]))))
theorem zr8 {i:Nat} {t:TE} {f:DE} (h:ED K O t f):SD K O (zep (tBM K "list" ze2 (tVar i) (zav t tNil))) (appS i f):=fun H₀ A σ H ρ D Dd r q P=>by
 obtain ⟨ds,e,q⟩:=q
 obtain ⟨v,hv,a,xs,rfl,ha,hl,hs⟩:=r.at_ i _ e
 refine ⟨_,hv,?_⟩
 refine ⟨.inl ⟨rfl,xs,.of hl⟩,?_⟩
 refine h σ H ρ _ _ r.seen q fun w H1 x s1 o1 ⟨fl,hz,q1⟩=>?_
 have r1:=r.stp s1
 obtain ⟨v1,hv1,a1,xs1,e1,ha1,hl1,hs1⟩:=r1.at_ i _ e
 rw [hv] at hv1
 cases hv1
 cases e1
 refine ⟨a,xs1,w,rfl,rfl,hl1,by rw [hs1.length];exact hz,?_⟩
 have iw:Is K (unO O A) H1 w x.d:=Is.flat (TupStay.refl H1) (o1.is r.ok r.p) fl
 exact P.nx A σ _ _ (r1.change e hv ha (hs1.snoc iw)) ((Frm.stp s1).trans (.change ha)) q1
end
end L3
namespace L3
open PySem PySem.Spec
open PyProof.Rows hiding St
open L2
noncomputable def GR (K:PySem.W.Frag) (O:Ob) (t:TG) (g:DG):Prop :=
 ∀ (H₀:Hp) (A:Nat->Addr->Prop) (σ:St) (H:Hp) (ρ:DSt) (v:V) (d:PyData) (Q:St->Hp->Prop) (Qd:DSt->Prop),Rep K O H₀ A H σ ρ->flat d=true->Is K (unO O A) H v d->g d ρ Qd ->
   (∀ A' σ' ρ',Rep K O H₀ A' H σ' ρ'->Frm O A H A' H->Qd ρ'->Q σ' H)->t v σ H Q
section
variable {K : PySem.W.Frag} {O : Ob}
theorem zzs {i:Nat}:GR K O (za9 i) (gN i):=fun H₀ A σ H ρ v d Q Qd r _ h q k=>k _ _ _ (r.setIm h) (.setIm (.refl _ _)) q
noncomputable def GRs (K:PySem.W.Frag) (O:Ob) (t:TGs) (is:List Nat):Prop :=
 ∀ (H₀:Hp) (A:Nat->Addr->Prop) (σ:St) (H:Hp) (ρ:DSt) (vs:List V) (ds:List PyData) (Q:St->Hp->Prop) (Qd:DSt->Prop),Rep K O H₀ A H σ ρ->flats ds=true->IsAll K (unO O A) H vs ds->gTD is ds ρ Qd ->
   (∀ A' σ' ρ',Rep K O H₀ A' H σ' ρ'->Frm O A H A' H->Qd ρ'->Q σ' H)->t vs σ H Q
theorem zy1:GRs K O gNil []:=fun H₀ A σ H ρ vs ds Q Qd r _ i h k=>by
 cases i with
 | nil=>exact ⟨rfl,k A σ ρ r .refl h⟩
 | cons _ _=>exact h.elim
theorem zut {i:Nat} {is:List Nat} {t:TGs} (ht:GRs K O t is):GRs K O (zh7 (za9 i) t) (i::is):=fun H₀ A σ H ρ vs ds Q Qd r fl h q k=>by
 cases h with
 | nil=>exact q.elim
 | cons h1 h2 =>
   rw [flats,Bool.and_eq_true] at fl
   have f1:Frm O A H (fun j a=>j ≠ i/\A j a) H := .setIm (.refl _ _)
   refine ⟨_,_,rfl,ht _ _ _ H _ _ _ _ _ (r.setIm h1) fl.2 (IsAll.flats (TupStay.refl H) h2 fl.2) q fun A' σ' ρ' r' f q'=>k A' σ' ρ' r' (f1.trans f) q'⟩
theorem z3b {is:List Nat} {t:TGs} {n:Nat} (hn:is.length=n) (ht:GRs K O t is):GR K O (gTup K n t) (gT is):=fun H₀ A σ H ρ v d Q Qd r fl i h k=>by
 obtain ⟨ds,rfl,h⟩:=h
 cases i with
 | tuple q is'=>exact ⟨_,_,rfl,q,by rw [is'.length,zj3 h];exact hn,ht H₀ A σ H ρ _ ds Q Qd r (by simpa [flat] using fl) is' h k⟩
noncomputable def zel (g:DG) (gb:DS) (Dd:DEnds):List PyData->DSt->Prop
 | [],ρ=>Dd.nx ρ
 | d::ds,ρ=>flat d=true/\g d ρ fun ρ2=>gb { Dd with nx:=zel g gb Dd ds,ct:=zel g gb Dd ds,bk:=Dd.nx } ρ2
noncomputable abbrev DJ:=DSt->(List PyData->Prop)->Prop
noncomputable def SrcR (K:PySem.W.Frag) (O:Ob) (wi:TI) (f:DJ):Prop :=
 ∀ (H₀:Hp) (A:Nat->Addr->Prop) (σ:St) (H:Hp) (ρ:DSt) (R:It->Hp->Prop) (Qd:List PyData->Prop),Rep K O H₀ A H σ ρ->f ρ Qd ->
   (∀ (J:It) (H1:Hp) (ds:List PyData) (B:Addr->Prop),Walk K O H H1 J ds B->(∀ a,B a->unO O A a)->Qd ds->R J H1)->wi σ H R
noncomputable def newJ (f:DI):DJ:=fun ρ Q=>f ρ fun fr ds=>fr=true/\Q ds
theorem zzk {wi:TI} {f:DI} (h:SrcS K O wi f):SrcR K O wi (newJ f):=fun H₀ A σ H ρ R Qd r q k=>by
 refine h σ H ρ _ _ r.seen q fun J H1 ds B fr W hfr ⟨e,q1⟩=>k J H1 ds B W (fun a b=>⟨(W.hb a b).1,fun j z=>?_⟩) q1
 obtain ⟨_,⟨xs,q,_⟩,_⟩:=r.own j a z
 rw [hfr e a b] at q;cases q
noncomputable def varJ (i:Nat):DJ:=fun ρ Q=>∃ ds,ρ[i]? = some (some (.im (.list ds)))/\Q ds
theorem znz {i:Nat}:SrcR K O (zei K (tVar i)) (varJ i):=fun H₀ A σ H ρ R Qd r q k=>by
 obtain ⟨ds,e,q⟩:=q
 obtain ⟨v,hv,h⟩:=r.at_ i _ e
 have h':Is K (unO O A) H v (.list ds):=h
 cases h' with
 | list f0 ha hs =>
   rename_i a xs
   have hs':IsAll K (unM O) H xs ds:=hs.weak fun b u=>u.1
   refine ⟨_,hv,a,rfl,⟨xs,.of ha⟩,k (Itl K a) H ds (fun b=>b=a) ⟨.refl _ _,fun b hb=>by subst hb;exact ⟨f0.1,_,ha⟩,fun H2 i kb _ hi=>?_,fun H2 i d kb t2 hd c=>?_⟩ (fun b hb=>by subst hb;exact f0) q⟩
   ·exact ⟨xs,.of (kb a _ rfl ha),by rw [hs.length];exact hi⟩
   ·obtain ⟨w,hw,iw⟩:=zey (O:=O) hs' hd t2 c
    have q2:SqL K H2 a xs := .of (kb a _ rfl ha)
    refine ⟨⟨xs,w,q2,hw⟩,fun x H3 ⟨e3,y⟩=>?_⟩
    subst e3
    have:=y xs q2
    rw [hw] at this
    cases this
    exact ⟨Same.refl _,iw⟩
noncomputable def forS (f:DJ) (g:DG) (gb:DS):DS:=fun Dd ρ=>f ρ fun ds=>zel g gb Dd ds ρ
theorem Rep.tupStay {H₀:Hp} {A A2:Nat->Addr->Prop} {H1 H2:Hp} {σ:St} {ρ:DSt} (r:Rep K O H₀ A H1 σ ρ) (f:Frm O A H1 A2 H2):TupStay H1 H2:=fun a u hu e=>by
 refine (f a u e ⟨fun m=>?_,fun j z=>?_⟩).1
 ·have mm:=r.ok.mutb H1 a u r.p e m
  obtain ⟨xs,e1 | ⟨o,e1⟩⟩:=hu
  ·exact mm.1 xs e1
  ·exact mm.2 o _ e1
 ·obtain ⟨_,⟨xs,q,ho⟩,_⟩:=r.own j a z
  rw [e] at q
  cases q
  obtain ⟨ys,e1 | ⟨o,e1⟩⟩:=hu
  ·exact (ho ys).1 e1
  ·exact (ho ys).2 o e1
theorem zsg {wi:TI} {tg:TG} {tb:TS} {f:DJ} {g:DG} {gb:DS} (hs:SrcR K O wi f) (hg:GR K O tg g) (hb:SD K O tb gb):SD K O (tFor wi tg tb) (forS f g gb):=fun H₀ A σ H ρ D Dd r q P=>by
 refine hs H₀ A σ H ρ _ _ r q fun J H1 ds B W uB go=>?_
 have r1:=r.stp W.st
 have f1:Frm O A H A H1 := .stp W.st
 refine ⟨fun i m σ2 H2=>m=ds.length - i/\i<=ds.length/\∃ A2 ρ2,Rep K O H₀ A2 H2 σ2 ρ2/\Frm O A H1 A2 H2/\zel g gb Dd (ds.drop i) ρ2,⟨ds.length,rfl,Nat.zero_le _,A,ρ,r1,.refl,by simpa using go⟩,?_⟩
 rintro i m σ2 H2 ⟨rfl,hi,A2,ρ2,r2,f2,go2⟩
 have kB:∀ a o,B a->H1 a=some o->H2 a=some o:=fun a o b e=>(f2 a o e (uB a b)).1
 have ts:TupStay H1 H2:=r1.tupStay f2
 by_cases hlt:i<ds.length
 ·right
  have hd:ds[i]? = some ds[i]:=List.getElem?_eq_getElem hlt
  rw [List.drop_eq_getElem_cons hlt] at go2
  obtain ⟨fl,go2⟩:=go2
  obtain ⟨hgo,hy⟩:=W.item H2 i ds[i] kB ts hd (.inl fl)
  refine ⟨hgo,fun σ' H'=>∃ A' ρ',Rep K O H₀ A' H' σ' ρ'/\Frm O A H1 A' H'/\zel g gb Dd (ds.drop (i+1)) ρ',fun σ' H' ⟨A',ρ',x1,x2,x3⟩=>⟨ds.length - (i+1),by lia,rfl,hlt,A',ρ',x1,x2,x3⟩,fun x H3 y=>?_⟩
  obtain ⟨sm,ix⟩:=hy x H3 y
  have st3:Stp O H2 H3 := .same r2.ok sm
  have r3:=r2.stp st3
  refine hg H₀ A2 σ2 H3 ρ2 x ds[i] _ _ r3 fl (Is.flat (TupStay.refl H3) ix fl) go2 fun A3 σ3 ρ3 r3' f3 q3=>?_
  have f13:Frm O A H1 A3 H3:=(f2.trans (.stp st3)).trans f3
  refine hb H₀ A3 σ3 H3 ρ3 _ _ r3' q3 ⟨fun A' σ' H' ρ' r' f' q'=>⟨A',ρ',r',f13.trans f',q'⟩,fun A' σ' H' ρ' r' f' q'=>P.nx A' σ' H' ρ' r' (f1.trans (f13.trans f')) q',fun A' σ' H' ρ' r' f' q'=>⟨A',ρ',r',f13.trans f',q'⟩,P.rt⟩
 ·left
  have e:i=ds.length:=by lia
  subst e
  rw [List.drop_length] at go2
  exact ⟨W.stop H2 _ kB ts (Nat.le_refl _),P.nx A2 σ2 H2 ρ2 r2 (f1.trans f2) go2⟩
noncomputable def zrp (i:Nat) (g:DG) (gb:DS):DS:=fun Dd ρ=>∃ ds,ρ[i]? = some (some (.own ds))/\zel g gb Dd ds (ρ.set i (some (.im (.list ds))))
theorem zsu {i:Nat} {tg:TG} {tb:TS} {g:DG} {gb:DS} (hg:GR K O tg g) (hb:SD K O tb gb):SD K O (tFor (zei K (tVar i)) tg tb) (zrp i g gb):=fun H₀ A σ H ρ D Dd r q P=>by
 obtain ⟨ds,e,q⟩:=q
 have hi:i<ρ.length:=(List.getElem?_eq_some_iff.mp e).1
 refine zsg (znz (i:=i)) hg hb H₀ _ σ H _ D Dd (r.disown e) ⟨ds,List.getElem?_set_self hi,q⟩ (P.frm (.setIm (.refl _ _)))
noncomputable def zth (c:DT) (gb:DS):DS:=fun Dd ρ=>∃ W:Nat->DSt->Prop,(∃ m,W m ρ)/\∀ m ρ,W m ρ->c ρ fun b=>if b=true then gb { Dd with nx:=fun ρ'=>∃ m',m'<m/\W m' ρ',ct:=fun ρ'=>∃ m',m'<m/\W m' ρ',bk:=Dd.nx } ρ else Dd.nx ρ
theorem zue {c:TT} {tb:TS} {fc:DT} {gb:DS} (hc:TD K O c fc) (hb:SD K O tb gb):SD K O (zl9 c tb) (zth fc gb):=fun H₀ A σ H ρ D Dd r q P=>by
 obtain ⟨W,⟨m0,w0⟩,turn⟩:=q
 refine ⟨fun m σ2 H2=>∃ A2 ρ2,Rep K O H₀ A2 H2 σ2 ρ2/\Frm O A H A2 H2/\W m ρ2,⟨m0,A,ρ,r,.refl,w0⟩,?_⟩
 rintro m σ2 H2 ⟨A2,ρ2,r2,f2,w2⟩
 refine hc σ2 H2 ρ2 _ _ r2.seen (turn m ρ2 w2) fun b H3 s3 q3=>?_
 have f3:Frm O A H A2 H3:=f2.trans (.stp s3)
 cases b with
 | true =>
   refine ⟨fun σ' H'=>∃ A' ρ',Rep K O H₀ A' H' σ' ρ'/\Frm O A H A' H'/\∃ m',m'<m/\W m' ρ',fun σ' H' ⟨A',ρ',x1,x2,m',x3,x4⟩=>⟨m',x3,A',ρ',x1,x2,x4⟩,?_⟩
   exact hb H₀ A2 σ2 H3 ρ2 _ _ (r2.stp s3) q3 ⟨fun A' σ' H' ρ' r' f' q'=>⟨A',ρ',r',f3.trans f',q'⟩,fun A' σ' H' ρ' r' f' q'=>P.nx A' σ' H' ρ' r' (f3.trans f') q',fun A' σ' H' ρ' r' f' q'=>⟨A',ρ',r',f3.trans f',q'⟩,P.rt⟩
 | false=>exact P.nx A2 σ2 H3 ρ2 (r2.stp s3) f3 q3
end
noncomputable def spO (K:PySem.W.Frag) (φ:Ob->Prop) (n:Nat) (f:List PyData->(R->Prop)->Prop):Sp:=fun vs H Q _ =>
 ∃ (O:Ob) (ds:List PyData) (Qr:R->Prop),O.Ok/\φ O/\O.P H/\ds.length=n/\IsAll K (unM O) H vs ds/\f ds Qr/\∀ r,Qr r->∀ v H',Stp O H H'->Out K O H H' v r->Q v H'
noncomputable def spD (K:PySem.W.Frag) (φ:Ob->Prop) (n:Nat) (f:List PyData->(R->Prop)->Prop):Sp:=fun vs H Q _ =>
 ∃ (O:Ob) (ds:List PyData) (ws:List V) (Qr:R->Prop),O.Ok/\φ O/\O.P H/\ds.length=n/\vs=O.v::ws/\IsAll K (unM O) H ws ds/\f ds Qr/\∀ r,Qr r->∀ v H',Stp O H H'->Out K O H H' v r->Q v H'
noncomputable def zec (N:List Str) (rs:List DV):DSt:=rs.map some++List.replicate (N.length - rs.length) none
section
variable {K : PySem.W.Frag} {O : Ob}
theorem zk1 {N:List Str} {H:Hp} {vs:List V} {rs:List DV} (ok:O.Ok) (p:O.P H) (hl:vs.length=rs.length) (h:∀ (i:Nat) r,rs[i]? = some r->∃ v,vs[i]? = some v/\((∃ d,r = .im d/\Is K (unM O) H v d)\/(r = .ob/\v=O.v))) :
 Rep K O H (fun _ _=>False) H (L2.start N vs) (zec N rs):=by
 refine ⟨ok,p,p,.refl _ _,fun _ _ _ z=>z.elim,fun _ _ z=>z.elim,fun i r e=>?_,?_⟩
 ·unfold zec at e
  by_cases hi:i<rs.length
  ·rw [List.getElem?_append_left (by simpa using hi),List.getElem?_map] at e
   cases q:rs[i]? with
   | none=>rw [q] at e;cases e
   | some r' =>
     rw [q] at e
     have e':r'=r:=Option.some.inj (Option.some.inj e)
     subst e'
     obtain ⟨v,hv,hh⟩:=h i r' q
     refine ⟨v,?_,?_⟩
     ·unfold L2.start
      rw [List.getElem?_append_left (by rw [List.length_map,hl];exact hi),List.getElem?_map,hv]
      rfl
     ·rcases hh with ⟨d,rfl,hd⟩ | ⟨rfl,hd⟩
      ·exact hd.weak fun a u=>⟨u,fun j z=>z⟩
      ·exact hd
  ·rw [List.getElem?_append_right (by simpa using hi),List.getElem?_replicate] at e
   split at e <;> cases e
 ·unfold zec L2.start
  rw [List.length_append,List.length_append,List.length_map,List.length_map,List.length_replicate,List.length_replicate,hl]
theorem z3p {N:List Str} {t:TS} {g:DS} {H:Hp} {vs:List V} {ds:List PyData} {Q:VK} {Qr:R->Prop} (h:SD K O t g) (ok:O.Ok) (p:O.P H) (ia:IsAll K (unM O) H vs ds)
 (hg:g { nx:=fun _=>Qr (.o .none),rt:=Qr } (zec N (ds.map .im))) (hQ:∀ r,Qr r->∀ v H',Stp O H H'->Out K O H H' v r->Q v H'):t { nx:=fun _ H'=>Q .non H',rt:=Q } (L2.start N vs) H:=by
 refine h H _ _ H _ _ _ (zk1 ok p (by rw [List.length_map];exact ia.length) fun i r e=>?_) hg ⟨fun A' σ' H' ρ' r' _ q=>hQ _ q .non H' r'.st Is.none,fun A' σ' H' ρ' r' _ q=>q.elim,fun A' σ' H' ρ' r' _ q=>q.elim,fun H' v r s o q=>hQ r q v H' s o⟩
 rw [List.getElem?_map] at e
 obtain ⟨d,hd,rfl⟩:=Option.map_eq_some_iff.mp e
 obtain ⟨v,hv,iv⟩:=ia.get hd
 exact ⟨v,hv,.inl ⟨d,rfl,iv⟩⟩
theorem z3s {N:List Str} {t:TS} {g:DS} {H:Hp} {ws:List V} {ds:List PyData} {Q:VK} {Qr:R->Prop} (h:SD K O t g) (ok:O.Ok) (p:O.P H) (ia:IsAll K (unM O) H ws ds)
 (hg:g { nx:=fun _=>Qr (.o .none),rt:=Qr } (zec N (.ob::ds.map .im))) (hQ:∀ r,Qr r->∀ v H',Stp O H H'->Out K O H H' v r->Q v H'):t { nx:=fun _ H'=>Q .non H',rt:=Q } (L2.start N (O.v::ws)) H:=by
 refine h H _ _ H _ _ _ (zk1 ok p (by rw [List.length_cons,List.length_cons,List.length_map,ia.length]) fun i r e=>?_) hg ⟨fun A' σ' H' ρ' r' _ q=>hQ _ q .non H' r'.st Is.none,fun A' σ' H' ρ' r' _ q=>q.elim,fun A' σ' H' ρ' r' _ q=>q.elim,fun H' v r s o q=>hQ r q v H' s o⟩
 cases i with
 | zero=>cases e;exact ⟨O.v,rfl,.inr ⟨rfl,rfl⟩⟩
 | succ i =>
   rw [List.getElem?_cons_succ,List.getElem?_map] at e
   obtain ⟨d,hd,rfl⟩:=Option.map_eq_some_iff.mp e
   obtain ⟨v,hv,iv⟩:=ia.get hd
   exact ⟨v,by rw [List.getElem?_cons_succ];exact hv,.inl ⟨d,rfl,iv⟩⟩
noncomputable def calD (n:Nat) (f:List PyData->(R->Prop)->Prop) (g:DA):DE:=fun ρ Q=>g ρ fun ds=>ds.length=n/\f ds Q
theorem zxw {φ:Ob->Prop} {n:Nat} {f:List PyData->(R->Prop)->Prop} {E:XK} {t:TA} {g:DA} (hφ:φ O) (h:AD K O t g):ED K O (zeo (spO K φ n f) [] E t) (calD n f g):=fun σ H ρ Q Qd S q k=>by
 refine h σ H ρ _ _ S q fun vs H1 ds s1 is ⟨hn,q1⟩=>?_
 rw [List.append_nil]
 exact ⟨O,ds,Qd,S.ok,hφ,s1.p S.p,hn,is,q1,fun r qr v H' s2 o2=>k v H' r (s1.trans s2) (o2.ahead S.ok S.p s1) qr⟩
noncomputable def calO (i:Nat) (n:Nat) (f:List PyData->(R->Prop)->Prop) (g:DA):DE:=fun ρ Q=>ρ[i]? = some (some .ob)/\g ρ fun ds=>ds.length=n/\f ds Q
theorem zuo {φ:Ob->Prop} {i n:Nat} {f:List PyData->(R->Prop)->Prop} {E:XK} {t:TA} {g:DA} (hφ:φ O) (h:AD K O t g):ED K O (zeo (spD K φ n f) [] E (zav (tVar i) t)) (calO i n f g):=fun σ H ρ Q Qd S q k=>by
 obtain ⟨e,q⟩:=q
 obtain ⟨v,hv,hh⟩:=S.at_ i _ e
 refine ⟨v,hv,?_⟩
 refine h σ H ρ _ _ S q fun vs H1 ds s1 is ⟨hn,q1⟩=>?_
 show spD K φ n f ((v::vs) ++ []) H1 Q E
 rw [List.append_nil]
 exact ⟨O,ds,vs,Qd,S.ok,hφ,s1.p S.p,hn,by rw [show v=O.v from hh],is,q1,fun r qr v H' s2 o2=>k v H' r (s1.trans s2) (o2.ahead S.ok S.p s1) qr⟩
theorem zzx {φ:Ob->Prop} {n:Nat} {f:List PyData->(R->Prop)->Prop} {ps:List Str} (hn:ps.length=n):∀ vs H Q E,spO K φ n f vs H Q E->vs.length=ps.length:=fun vs H Q E zz=>by obtain ⟨O,ds,_,_,_,_,h,is,_⟩:=zz;rw [is.length,h,hn]
theorem zje {φ:Ob->Prop} {n:Nat} {f:List PyData->(R->Prop)->Prop} {ps:List Str} (hn:ps.length=n+1):∀ vs H Q E,spD K φ n f vs H Q E->vs.length=ps.length:=fun vs H Q E zz=>by obtain ⟨O,ds,ws,_,_,_,_,h,e,is,_⟩:=zz;rw [e,List.length_cons,is.length,h,hn]
end
end L3
namespace L3
open PySem PySem.Spec
open PyProof.Rows hiding St
open L2
section
variable {X : Cx}
noncomputable def rEqD (K:PySem.W.Frag) (neg:Bool):R2:=fun x y H Q=>∃ F G d e,Is K F H x d/\Is K G H y e/\d.canLay0=true/\e.canLay0=true/\d.depth<=60/\Q (.bl (if neg then !PyData.eqv d e else PyData.eqv d e)) H
theorem z2r (hu:X.A.units+64<cLine):OpR X (compareOp .Eq) (rEqD X.K false):=by
 intro pins s σ H x y v u Q I rx ry h
 obtain ⟨F,G,d,e,i1,i2,h1,h2,h3,q⟩:=h
 obtain ⟨as,ra⟩:=i1.reads I rx
 obtain ⟨bs,rb⟩:=i2.reads I ry
 exact SeqAt.compareEq_reads ra rb h1 h2 (by lia) ⟨.bl _,H,I,rfl,q⟩
theorem z1f (hu:X.A.units+64<cLine):OpR X (compareOp .NotEq) (rEqD X.K true):=by
 intro pins s σ H x y v u Q I rx ry h
 obtain ⟨F,G,d,e,i1,i2,h1,h2,h3,q⟩:=h
 obtain ⟨as,ra⟩:=i1.reads I rx
 obtain ⟨bs,rb⟩:=i2.reads I ry
 exact SeqAt.compareNe_reads ra rb h1 h2 (by lia) ⟨.bl _,H,I,rfl,q⟩
noncomputable def rInD (K:PySem.W.Frag) (neg:Bool):R2:=fun x y H Q=>∃ F G d es,Is K F H x d/\(Is K G H y (.list es)\/Is K G H y (.tuple es))/\d.canLay0=true/\PyData.canLayAll0 es=true/\d.depth<=60 /\
 Q (.bl (if neg then !es.any (fun y=>PyData.eqv y d) else es.any fun y=>PyData.eqv y d)) H
theorem z2m (hu:X.A.units+64<cLine):OpR X (compareOp .In) (rInD X.K false):=by
 intro pins s σ H x y v u Q I rx ry h
 obtain ⟨F,G,d,es,i1,i2,h1,h2,h3,q⟩:=h
 obtain ⟨as,ra⟩:=i1.reads I rx
 rcases i2 with i2 | i2
 ·obtain ⟨bs,rb⟩:=i2.reads I ry
  exact SeqAt.in_list_reads rb ra h2 h1 (by lia) ⟨.bl _,H,I,rfl,q⟩
 ·obtain ⟨bs,rb⟩:=i2.reads I ry
  exact SeqAt.in_tuple_reads rb ra h2 h1 (by lia) ⟨.bl _,H,I,rfl,q⟩
theorem zti (hu:X.A.units+64<cLine):OpR X (compareOp .NotIn) (rInD X.K true):=by
 intro pins s σ H x y v u Q I rx ry h
 obtain ⟨F,G,d,es,i1,i2,h1,h2,h3,q⟩:=h
 obtain ⟨as,ra⟩:=i1.reads I rx
 rcases i2 with i2 | i2
 ·obtain ⟨bs,rb⟩:=i2.reads I ry
  exact SeqAt.notIn_list_reads rb ra h2 h1 (by lia) ⟨.bl _,H,I,rfl,q⟩
 ·obtain ⟨bs,rb⟩:=i2.reads I ry
  exact SeqAt.notIn_tuple_reads rb ra h2 h1 (by lia) ⟨.bl _,H,I,rfl,q⟩
theorem zo8:∀ {bs:List Bool} {us:List Value},Vals (bs.map V.bl) us->us=bs.map Value.bool
 | [],_,r=>by cases r;rfl
 | b::bs,_,r=>by
   rw [List.map_cons] at r
   cases r with
   | cons h t=>rw [zo8 t,show _=Value.bool b from h];rfl
theorem zfn:∀ {ns:List Int} {us:List Value},Vals (ns.map V.int) us->∀ (i:Nat) (v:Value),us[i]? = some v->∃ n t,ns[i]? = some n/\v=Value.int n t
 | [],_,r,i,v,e=>by cases r;simp at e
 | n::ns,_,r,i,v,e=>by
   rw [List.map_cons] at r
   cases r with
   | cons h t =>
     obtain ⟨tk,rfl⟩:=h
     cases i with
     | zero=>simp at e;exact ⟨n,tk,rfl,e.symm⟩
     | succ i=>obtain ⟨m,t',h1,h2⟩:=zfn t i v (by simpa using e);exact ⟨m,t',by simpa using h1,h2⟩
theorem zt2 {bs:List Bool}:(List.range bs.length).all (fun i=>bs[i]?.getD false)=bs.all id:=by
 apply Bool.eq_iff_iff.mpr
 rw [List.all_eq_true,List.all_eq_true]
 constructor
 ·intro h x hx
  obtain ⟨i,hi,e⟩:=List.mem_iff_getElem.mp hx
  have:=h i (by simpa using hi)
  rw [List.getElem?_eq_getElem hi] at this
  rw [<- e];simpa using this
 ·intro h i hi
  have hi':i<bs.length:=by simpa using hi
  rw [List.getElem?_eq_getElem hi']
  simpa using h _ (List.getElem_mem hi')
noncomputable def rAll (any:Bool):List V->Hp->VK->Prop:=fun xs H Q=>∃ (p:Addr) (bs:List Bool),xs = [.ref p]/\H p=some (.lst (bs.map V.bl))/\Q (.bl (if any then bs.any id else bs.all id)) H
theorem zrj (hc:X.calm=true):zb2 X (.builtin "all") (rAll false):=by
 intro pins s σ H xs us Q I r h
 obtain ⟨p,bs,rfl,hH,q⟩:=h
 obtain ⟨u,rfl,ru⟩:=Vals.one r
 cases ru
 obtain ⟨z,its,n,rv,hl,e⟩:=I.lstM hH
 have ei:=zo8 rv
 subst ei
 have pl:s.heap.IsList p (bs.map Value.bool).toArray:=⟨_,e,rfl,_,rfl⟩
 have hne:p ≠ s.heap.objs.size:=Nat.ne_of_lt (Heap.lt_size e)
 refine call_all_walk (wpAny_pyIter_list pl ?_)
 refine ⟨s.heap.objs.size,_,_,_,_,_,fun i=>bs[i]?.getD false,rfl,Walks.list (A:=X.A.in1) (I.ok.hd hc) _ p hne (bs.map Value.bool).toArray,⟨⟨_,Heap.get?_push_size _ rfl,rfl,rfl⟩,_,Heap.get?_push_of_some _ e,rfl,_,rfl⟩,?_,fun h' tk kk=>?_⟩
 ·intro i v s' Q' E' hv hq
  have hv:(bs.map Value.bool).toArray[i]? = some v:=hv
  rw [List.getElem?_toArray,List.getElem?_map] at hv
  obtain ⟨b,hb,rfl⟩:=Option.map_eq_some_iff.mp hv
  have hq:Q' (bs[i]?.getD false) s':=hq
  rw [hb] at hq
  exact wpAny_truthy_bool hq
 ·have I1:Inv X pins σ H { s with heap:=h',toks:=tk }:=I.kept fun b o eb=>kk b o (by simp;exact Nat.ne_of_lt (Heap.lt_size eb)) (Heap.get?_push_of_some _ eb)
  refine ⟨.bl _,H,I1,?_,q⟩
  show Value.bool _=Value.bool _
  rw [List.size_toArray,List.length_map,zt2]
  rfl
theorem zfq:∀ {ys:List Str} {us:List Value},Vals (ys.map V.str) us->StrsAre us ys
 | [],_,r=>by cases r;exact .nil
 | y::ys,_,r=>by
   rw [List.map_cons] at r
   cases r with
   | cons h t=>obtain ⟨tk,rfl⟩:=h;exact .cons y tk (zfq t)
theorem zd5:∀ {ys:List Str} {us:List Value},StrsAre us ys->Vals (ys.map V.str) us
 | _,_,.nil => .nil
 | _,_,.cons y t r => .cons ⟨t,rfl⟩ (zd5 r)
noncomputable def zij:V->List V->Hp->VK->Prop:=fun x vs H Q=>∃ sep p ys,x = .str sep/\vs = [.ref p]/\H p=some (.lst (ys.map V.str))/\(ys.map (·.length)).sum+ys.length * sep.length<=16777216/\Q (.str (Txt.join sep ys)) H
theorem zxs:MtM X "str.join" zij:=by
 intro pins s σ H x vs v us Q I rx rv h
 obtain ⟨sep,p,ys,rfl,rfl,hH,hz,q⟩:=h
 obtain ⟨t,rfl⟩:=rx
 obtain ⟨u,rfl,ru⟩:=rv.one
 cases ru
 obtain ⟨z,its,n,r,hl,e⟩:=I.lstM hH
 exact join_list ⟨_,e,rfl,_,rfl⟩ (by simpa using zfq r) hz fun t' k=>⟨.str _,H,I.tok _,⟨_,rfl⟩,q⟩
noncomputable def zse:List V->Hp->VK->Prop:=fun xs H Q=>∃ p ys,xs = [.ref p]/\H p=some (.lst (ys.map V.str))/\ys.length<64/\∀ zs l,zs.Perm ys->sortedS zs=true->H l=none->Q (.ref l) (upd H l (.lst (zs.map V.str)))
theorem zp3:zb2 X (.builtin "sorted") zse:=by
 intro pins s σ H xs us Q I r h
 obtain ⟨p,ys,rfl,hH,hz,q⟩:=h
 obtain ⟨u,rfl,ru⟩:=Vals.one r
 cases ru
 obtain ⟨z,its,n,rv,hl,e⟩:=I.lstM hH
 refine sorted_strs (ss:=ys) ⟨_,e,rfl,_,rfl⟩ (zfq rv) (by rw [<- hl,List.length_map];exact hz) fun out zs h1 h2 h3=>?_
 obtain ⟨c,he⟩:=sortedAll_at s.heap its out
 have hn:H (s.heap.objs.size+1)=none:=I.hok.fresh (Nat.le_succ _)
 refine ⟨.ref _,_,I.laid (a:=s.heap.objs.size+1) (o := .lst (zs.map V.str)) (t':=s.toks) (fun b o eb=>sortedAll_old eb) (Nat.le_succ _) ?_,rfl,q zs _ h2 h3 hn⟩
 refine ⟨?_,out.toList,c,zd5 h1,by simpa using he⟩
 rw [List.length_map,h2.length_eq]
 have:sizeLine=16777216:=sizeLine_eq
 lia
theorem zh6 {P:Nat->Value->Prop} {acc:Array Value} {ys:List V} (h:ItemsOf P acc ys.length) (hv:∀ i v,P i v->∃ y,ys[i]? = some y/\RelV y v):Vals ys acc.toList:=by
 have go:∀ (k:Nat) (zs:List V) (l:List Value),zs.length=l.length->(∀ (i:Nat) v,l[i]? = some v->∃ y,zs[i]? = some y/\RelV y v)->Vals zs l:=by
  intro k zs l
  induction l generalizing zs with
  | nil=>intro e _;cases zs with
    | nil=>exact .nil
    | cons _ _=>simp at e
  | cons a l ih=>intro e hh;cases zs with
    | nil=>simp at e
    | cons z zs =>
      obtain ⟨y,h1,h2⟩:=hh 0 a rfl
      simp at h1
      subst h1
      exact .cons h2 (ih zs (by simpa using e) fun i v ev=>by simpa using hh (i+1) v (by simpa using ev))
 refine go 0 ys acc.toList (by have e:=h.1;simp [e]) fun i v e=>hv i v (h.2 i v (by simpa using e))
noncomputable def zr7:List V->Hp->VK->Prop:=fun xs H Q=>∃ x:Str,xs = [.str x]/\x.cps.size<=sizeLine/\∀ l,H l=none->Q (.ref l) (upd H l (.lst (x.cps.toList.map fun c=>V.str (sg c))))
theorem zqy (hc:X.calm=true):zb2 X (.type "list") zr7:=by
 intro pins s σ H xs us Q I r h
 obtain ⟨x,rfl,hz,q⟩:=h
 obtain ⟨u,rfl,ru⟩:=Vals.one r
 obtain ⟨t,rfl⟩:=ru
 refine call_list_str (I.ok.hd hc) x t (fun h' tk acc c kk e it=>?_) hz
 refine ⟨.ref _,_,I.laid (a:=s.heap.objs.size) (o := .lst (x.cps.toList.map fun c=>V.str (sg c))) kk (Nat.le_refl _) ?_,rfl,q _ I.fresh⟩
 refine ⟨by simpa using hz,acc.toList,c,zh6 (P:=SignAt x) (by simpa using it) fun i v hv=>?_,by simpa using e⟩
 obtain ⟨cc,uu,h1,rfl⟩:=hv
 exact ⟨.str (sg cc),by rw [List.getElem?_map];simp [h1],⟨uu,rfl⟩⟩
theorem ztx:zb2 X (.type "range") (fun xs H Q=>∃ j:Int,xs = [.int j]/\∀ p,H p=none->Q (.ref p) (upd H p (.rng 0 j))):=by
 intro pins s σ H xs us Q I r h
 obtain ⟨j,rfl,q⟩:=h
 obtain ⟨u,rfl,ru⟩:=Vals.one r
 obtain ⟨t,rfl⟩:=ru
 refine call_range_1 ⟨.ref _,_,I.laid (a:=s.heap.objs.size) (o := .rng 0 j) (fun b o e=>Heap.get?_push_of_some _ e) (Nat.le_refl _) ⟨_,_,_,Heap.get?_push_size _ rfl⟩,rfl,q _ I.fresh⟩
theorem zsa:zb2 X (.type "range") (fun xs H Q=>∃ i j:Int,xs = [.int i,.int j]/\∀ p,H p=none->Q (.ref p) (upd H p (.rng i j))):=by
 intro pins s σ H xs us Q I r h
 obtain ⟨i,j,rfl,q⟩:=h
 obtain ⟨u,w,rfl,ru,rw'⟩:=Vals.two r
 obtain ⟨t,rfl⟩:=ru
 obtain ⟨t',rfl⟩:=rw'
 refine call_range_2 ⟨.ref _,_,I.laid (a:=s.heap.objs.size) (o := .rng i j) (fun b o e=>Heap.get?_push_of_some _ e) (Nat.le_refl _) ⟨_,_,_,Heap.get?_push_size _ rfl⟩,rfl,q _ I.fresh⟩
noncomputable def zmg:List V->Hp->VK->Prop:=fun xs H Q=>∃ p i j,xs = [.ref p]/\H p=some (.rng i j)/\(-(2 ^ 20)<=i/\i<=2 ^ 20/\-(2 ^ 20)<=j/\j<=2 ^ 20)/\∀ l,H l=none->Q (.ref l) (upd H l (.lst ((List.range (j - i).toNat).map fun k=>V.int (i+(k:Nat)))))
theorem zi7 (hc:X.calm=true):zb2 X (.type "list") zmg:=by
 intro pins s σ H xs us Q I r h
 obtain ⟨p,i,j,rfl,hH,⟨b1,b2,b3,b4⟩,q⟩:=h
 obtain ⟨u,rfl,ru⟩:=Vals.one r
 cases ru
 obtain ⟨t,u,v,e⟩:=I.hok p _ hH
 have hn:Builtin.Range.rangeSize i j 1=(((j - i).toNat:Nat):Int):=by rw [rangeSize_one];split <;> lia
 have hl:(j - i).toNat<=2 ^ 24:=by lia
 refine call_list_range (I.ok.hd hc) (a:=i) (b:=j) (c:=1) (t:=t) (u:=u) (v:=v) e (small_one (by lia) (by lia) (by lia) (by lia)) hn hl fun h' tk acc c kk e' it=>?_
 refine ⟨.ref _,_,I.laid (a:=s.heap.objs.size) (o := .lst ((List.range (j - i).toNat).map fun k=>V.int (i+(k:Nat)))) kk (Nat.le_refl _) ?_,rfl,q _ I.fresh⟩
 have hs:sizeLine=16777216:=sizeLine_eq
 refine ⟨by rw [List.length_map,List.length_range];lia,acc.toList,c,zh6 (P:=fun k w=>∃ t,(k<(j - i).toNat/\w=Value.int (i+k * 1) t)) ⟨by simpa using it.1,fun k w ew=>?_⟩ fun k w hw=>?_,by simpa using e'⟩
 ·obtain ⟨t,et⟩:=it.2 k w ew
  obtain ⟨hk,_⟩:=Array.getElem?_eq_some_iff.mp ew
  exact ⟨t,by rw [<- it.1];exact hk,et⟩
 ·obtain ⟨t,hk,rfl⟩:=hw
  refine ⟨.int (i+(k:Nat)),by rw [List.getElem?_map,List.getElem?_range hk];rfl,⟨t,?_⟩⟩
  rw [Int.mul_one]
noncomputable def zwg (K:PySem.W.Frag):List V->Hp->VK->Prop:=fun xs H Q=>∃ v F d,xs = [v]/\Is K F H v d/\d.showable=true/\d.hasDict=false/\d.depth<=60/\d.shown.length<=sizeLine/\Q (.str d.shown) H
theorem zqa (hg:X.A.guards=some []) (hu:X.A.units+64<cLine):zb2 X (.builtin "repr") (zwg X.K):=by
 intro pins s σ H xs us Q I r h
 obtain ⟨v,F,d,rfl,i,h1,h2,h3,h4,q⟩:=h
 obtain ⟨u,rfl,ru⟩:=Vals.one r
 have fin:∀ h' u tk,(∀ b o,s.heap.get? b=some o->h'.get? b=some o)->EP X pins σ Q (.str d.shown u) { s with heap:=h',toks:=tk }:=fun h' u tk kk=>⟨.str _,H,I.kept kk,⟨_,rfl⟩,q⟩
 have fin':∀ u tk,EP X pins σ Q (.str d.shown u) { s with toks:=tk }:=fun u tk=>⟨.str _,H,I.tok _,⟨_,rfl⟩,q⟩
 obtain ⟨as,ra⟩:=i.reads I ru
 cases i with
 | none=>cases ru;exact PySem.P.repr_of_none (fin' _ _)
 | bool b=>cases ru;exact PySem.P.repr_of_bool (fin' _ _)
 | int n=>obtain ⟨t,rfl⟩:=ru;exact PySem.P.repr_of_int (by simpa [PyData.showable] using h1) (fin' _ _)
 | str x=>obtain ⟨t,rfl⟩:=ru;exact PySem.P.repr_of_str (fin' _ _) h4
 | list _ _ _=>cases ru;exact repr_of_reads' ra h1 (fun z=>by rw [h2] at z;cases z) hg (by lia) (fun _ _ e=>e) fin h4
 | tuple _ _=>cases ru;exact repr_of_reads' ra h1 (fun z=>by rw [h2] at z;cases z) hg (by lia) (fun _ _ e=>e) fin h4
end
end L3
namespace L3
open PySem PySem.Spec
open PyProof.Rows hiding St
open L2
noncomputable def tx (l:List Nat):Str:=⟨l.toArray⟩
theorem ztr (x:Str):tx x.cps.toList=x:=by cases x;simp [tx]
theorem zbe (l:List Nat):(tx l).cps.toList=l:=by simp [tx]
theorem zt7 (l:List Nat):(tx l).length=l.length:=by simp [tx,Str.length]
noncomputable def cutL {α:Type} (xs:List α) (lo hi:Option Int):List α:=(xs.drop (HT.sIx xs.length 0 lo)).take (HT.sIx xs.length xs.length hi - HT.sIx xs.length 0 lo)
theorem zhv (n d:Nat) (v:Int):max (0:Int) (min (if v<0 then v+n else v) n)=((HT.sIx n d (some v):Nat):Int):=by
 rw [<- HT.clip_eq v n d]
 by_cases h:v<0
 ·rw [if_pos h,if_pos h];lia
 ·rw [if_neg h,if_neg h];lia
theorem zod (lo hi:Option Int) (n:Nat):Builtin.Str.strSliceIndices lo hi 1 n=(List.range (HT.sIx n n hi - HT.sIx n 0 lo)).map fun k=>HT.sIx n 0 lo+k:=by
 have e1:(match lo with | none=>(0:Int) | some i=>max 0 (min (if i<0 then i+(n:Int) else i) n))=((HT.sIx n 0 lo:Nat):Int):=by
  cases lo with
  | none=>rfl
  | some v=>exact zhv n 0 v
 have e2:(match hi with | none=>(n:Int) | some i=>max 0 (min (if i<0 then i+(n:Int) else i) n))=((HT.sIx n n hi:Nat):Int):=by
  cases hi with
  | none=>rfl
  | some v=>exact zhv n n v
 have e0:Builtin.Str.strSliceIndices lo hi 1 n=sliceRange ((HT.sIx n 0 lo:Nat):Int) ((HT.sIx n n hi:Nat):Int) 1:=by
  rw [<- e1,<- e2]
  cases lo <;> cases hi <;> rfl
 rw [e0]
 generalize HT.sIx n 0 lo=a
 generalize HT.sIx n n hi=b
 simp only [sliceRange,show ((1:Int) > 0)=True from by simp,if_true]
 by_cases hlt:(a:Int)<b
 ·have e3:(((b:Int) - a+1 - 1) / 1).toNat=b - a:=by first | lia | (simp;done) | (simp;lia)
  simp only [hlt,if_true,e3]
  refine List.map_congr_left fun k _=>?_
  lia
 ·have:b - a=0:=by lia
  simp [hlt,this]
theorem zrm {α:Type} (l:List α):∀ (n a:Nat),a+n<=l.length->((List.range n).map fun k=>a+k).filterMap (fun i=>l[i]?)=(l.drop a).take n
 | 0,_,_=>by simp
 | n+1,a,h=>by
   have hlt:a+n<l.length:=by lia
   rw [List.range_succ,List.map_append,List.filterMap_append,zrm l n a (by lia),List.take_add_one,List.getElem?_drop]
   simp [List.getElem?_eq_getElem hlt]
section
variable {X : Cx}
noncomputable def rSlS:V->Option Int->Option Int->Hp->VK->Prop:=fun x lo hi H Q=>∃ z:Str,x = .str z/\z.length<=sizeLine/\Q (.str (tx (cutL z.cps.toList lo hi))) H
theorem z0h:SlR X rSlS:=by
 intro pins s σ H x v vl vu lo hi sl Q I rx hs pl pu h
 obtain ⟨z,rfl,hz,q⟩:=h
 obtain ⟨t,rfl⟩:=rx
 refine ⟨"str", _,PySem.F.slot_str_getitem.lookup,typeIs_str s z t,?_⟩
 have hl:z.cps.toList.length=z.length:=by simp [Str.length]
 have hi':HT.sIx z.length z.length hi<=z.length:=HT.sIx_le _ _ (Nat.le_refl _) hi
 have key:∀ l u:Option (Int × Tok),l.map (·.1)=lo->u.map (·.1)=hi->s.heap.IsSlice sl l u none->wpAny (model X.prog X.w) X.A (getItem (.str z t) (.ref sl)) (EP X pins σ Q) X.xe s:=by
  intro l u el eu hsl
  have e:slicePicked z l u none=(List.range (HT.sIx z.length z.length hi - HT.sIx z.length 0 lo)).map fun k=>HT.sIx z.length 0 lo+k:=by
   unfold slicePicked
   rw [el,eu]
   exact zod lo hi z.length
  have ec:tx (cutL z.cps.toList lo hi)=⟨((slicePicked z l u none).filterMap (z.cps[·]?)).toArray⟩:=by
   rw [e]
   unfold cutL tx
   rw [hl]
   by_cases hij:HT.sIx z.length 0 lo<=HT.sIx z.length z.length hi
   ·have p:=zrm z.cps.toList (HT.sIx z.length z.length hi - HT.sIx z.length 0 lo) (HT.sIx z.length 0 lo) (by rw [hl];lia)
    rw [<- p]
    simp
   ·have:HT.sIx z.length z.length hi - HT.sIx z.length 0 lo=0:=by lia
    rw [this]
    simp
  refine wpAny_getItem_str_slice hsl rfl ?_
  unfold sliceMade
  split
  ·rename_i hc
   have hw:(slicePicked z l u none).length=z.length:=by simpa using hc
   have ex:tx (cutL z.cps.toList lo hi)=z:=by
    rw [e,List.length_map,List.length_range] at hw
    unfold cutL
    rw [hl]
    have h0:HT.sIx z.length 0 lo=0\/z.length=0:=by lia
    rcases h0 with h0 | h0
    ·rw [h0] at hw ⊢
     rw [List.drop_zero,List.take_of_length_le (by rw [hl];lia)]
     exact ztr z
    ·have hn:z.cps.toList = []:=List.eq_nil_of_length_eq_zero (by rw [hl];exact h0)
     rw [hn]
     simp only [List.drop_nil,List.take_nil]
     rw [<- hn]
     exact ztr z
   exact ⟨.str _,H,I,⟨t,by rw [ex]⟩,q⟩
  ·rw [<- ec]
   have hlen:(tx (cutL z.cps.toList lo hi)).length<=sizeLine:=by
    rw [zt7]
    unfold cutL
    rw [List.length_take,List.length_drop,hl]
    lia
   first
    | exact ⟨.str _,H,I.tok _,⟨_,rfl⟩,q⟩
    | exact ⟨hlen,.str _,H,I.tok _,⟨_,rfl⟩,q⟩
    | exact fun _=>⟨.str _,H,I.tok _,⟨_,rfl⟩,q⟩
 obtain ⟨o,ho,hc,hd⟩:=hs
 cases pl with
 | none=>cases pu with
   | none=>exact key none none rfl rfl ⟨o,ho,hc,hd⟩
   | int j t'=>exact key none (some (j,t')) rfl rfl ⟨o,ho,hc,hd⟩
 | int i ti=>cases pu with
   | none=>exact key (some (i,ti)) none rfl rfl ⟨o,ho,hc,hd⟩
   | int j t'=>exact key (some (i,ti)) (some (j,t')) rfl rfl ⟨o,ho,hc,hd⟩
noncomputable def zxb (K:PySem.W.Frag):V->Option Int->Option Int->Hp->VK->Prop:=fun x lo hi H Q=>∃ a xs,x = .ref a/\SqT K H a xs/\(HT.sIx xs.length 0 lo=0/\HT.sIx xs.length xs.length hi=xs.length)/\Q (.ref a) H
theorem zfu {prog:Program} {w:World} {A:Around} {E:Value->Shared->Prop} {s:Shared} {t sl:Addr} {items:Array Value} {vl vu:Value} {lo hi:Option Int} {Q:Value->Shared->Prop} (ht:IsTup s.heap t items) (hs:s.heap.IsSliceOf sl vl vu .none) (pl:IsPart vl lo) (pu:IsPart vu hi)
 (hw:HT.sIx items.size 0 lo=0/\HT.sIx items.size items.size hi=items.size) (h:Q (.ref t) s):wpAny (model prog w) A (getItem (.ref t) (.ref sl)) Q E s:=by
 obtain ⟨os,hos,hcs,hds⟩:=id hs
 have hTs:s.TypeIs (.ref sl) "slice" := ⟨os,hos,hcs⟩
 unfold getItem
 try with_reducible refine wpAny_holding ?_
 first | refine wpAny_bind (wpAny_pure ?_) | skip
 refine wpAny_bind (wpAny_sequenceKey ht.typeIs (by decide) ?_)
 refine wpAny_bind (wpAny_callSpecial?_slot (name:=Str.ofString "__getitem__") ht.typeIs PyProof.Rows.slot_tuple_getitem
  (wpAny_call_entry PyProof.Rows.slot_tuple_getitem ht.typeIs entry_tuple_getitem ?_ (args_tuple_getitem _ _)))
 show wpAny _ _ (Builtin.Tuple.tupleItemsOf (.ref t) >>= _) _ _ s
 refine wpAny_bind (tupleItemsOf_ ht ?_)
 refine wpAny_bind (wpAny_typeOf hTs ?_)
 rw [if_pos (by decide)]
 refine wpAny_bind (HT.sliceApplied_gen hs pl pu ?_)
 have hno:(((HT.sIx items.size 0 lo:Nat):Int) == 0 && (1:Int) == 1 && (HT.sIx items.size items.size hi - HT.sIx items.size 0 lo) == items.size)=true:=by
  rw [hw.1,hw.2]
  simp
 show wpAny _ _ (if (((HT.sIx items.size 0 lo:Nat):Int) == 0 && (1:Int) == 1 && (HT.sIx items.size items.size hi - HT.sIx items.size 0 lo) == items.size)=true then _ else _) _ _ s
 rw [if_pos hno]
 obtain ⟨o,ho,hc,n,hd⟩:=id ht
 refine wpAny_bind ?_
 unfold Builtin.Tuple.tupleIsExact
 refine wpAny_bind (wpAny_typeOf ht.typeIs (wpAny_pure ?_))
 show wpAny _ _ (if ((Value.type "tuple") == (Value.type "tuple"))=true then _ else _) _ _ s
 rw [if_pos (by decide)]
 exact wpAny_bind (wpAny_rule (wpAny_pure ⟨_,rfl,wpAny_pure h⟩))
theorem sl_tupW:SlR X (zxb X.K):=by
 intro pins s σ H x v vl vu lo hi sl Q I rx hs pl pu h
 obtain ⟨a,xs,rfl,hx,hw,q⟩:=h
 cases rx
 obtain ⟨its,r,ht,hz⟩:=I.tuple hx
 have hlen:its.toArray.size=xs.length:=by rw [List.size_toArray];exact r.length.symm
 exact ⟨"tuple", _,PyProof.Rows.slot_tuple_getitem.lookup,ht.typeIs,zfu ht hs pl pu (by rw [hlen];exact hw) ⟨.ref a,H,I,rfl,q⟩⟩
noncomputable def rSl (K:PySem.W.Frag):V->Option Int->Option Int->Hp->VK->Prop:=fun x lo hi H Q=>rSlL K x lo hi H Q\/rSlT K x lo hi H Q\/zxb K x lo hi H Q\/rSlS x lo hi H Q
theorem z0k:SlR X (rSl X.K):=sl_list.or (sl_tup.or (sl_tupW.or z0h))
noncomputable def zsj (K:PySem.W.Frag):R2:=fun x y H Q=>∃ a b ys,x = .ref a/\y = .ref b/\SqT K H a []/\SqT K H b ys/\Q (.ref b) H
theorem zv2:OpR X (binaryOp .Add) (zsj X.K):=by
 intro pins s σ H x y v u Q I rx ry h
 obtain ⟨a,b,ys,rfl,rfl,ha,hb,q⟩:=h
 cases rx
 cases ry
 obtain ⟨its,r1,p1,_⟩:=I.tuple ha
 obtain ⟨its2,r2,p2,_⟩:=I.tuple hb
 cases r1
 obtain ⟨⟨cls,dd,data,sl⟩,ho,hc,n,hd⟩:=id p1
 obtain ⟨⟨cls2,dd2,data2,sl2⟩,ho2,hc2,n2,hd2⟩:=id p2
 simp only at hc hd hc2 hd2
 subst hc hd hc2 hd2
 exact concat_meets ⟨_,ho,rfl⟩ ⟨_,ho2,rfl⟩ noFill_tuple_add seq_tuple_add PySem.F.slot_tuple_add PySem.F.entry_tuple_add (PySem.F.args_tuple_add_2 _ _)
  (tuple_addW0 a b _ its2.toArray n n2 dd dd2 sl sl2 (by simp)) ⟨ho,ho2,⟨.ref b,H,I,rfl,q⟩⟩
noncomputable def zwy:List V->Hp->VK->Prop:=fun xs H Q=>∃ (p:Addr) (ns:List Int),xs = [.ref p]/\H p=some (.lst (ns.map V.int))/\ns ≠ []/\∀ n,n ∈ ns->(∀ m ∈ ns,n<=m)->Q (.int n) H
theorem zr3 (hc:X.calm=true):zb2 X (.builtin "min") zwy:=by
 intro pins s σ H xs us Q I r h
 obtain ⟨p,ns,rfl,hH,hne0,q⟩:=h
 obtain ⟨u,rfl,ru⟩:=Vals.one r
 cases ru
 obtain ⟨z,its,n,rv,hl,e⟩:=I.lstM hH
 have pl:s.heap.IsList p its.toArray:=⟨_,e,rfl,_,rfl⟩
 have hne:p ≠ s.heap.objs.size:=Nat.ne_of_lt (Heap.lt_size e)
 have hlen:its.length=ns.length:=by rw [<- hl,List.length_map]
 have hpos:0<ns.length:=List.length_pos_iff.mpr hne0
 have plt:p<s.heap.objs.size:=Heap.lt_size e
 refine call_min_walk (wpAny_pyIter_list pl ?_)
 refine ⟨s.heap.objs.size,_,_,_,_,_,fun i j=>decide (ns[i]?.getD 0<ns[j]?.getD 0),rfl,Walks.list (A:=X.A.in1) (I.ok.hd hc) _ p hne its.toArray,⟨⟨_,Heap.get?_push_size _ rfl,rfl,rfl⟩,_,Heap.get?_push_of_some _ e,rfl,_,rfl⟩,fun b hb=>?_,by rw [List.size_toArray,hlen];exact hpos,?_,fun v h' tk hv kk=>?_⟩
 ·show b<(s.heap.push _).objs.size
  rw [Heap.size_push]
  rcases List.mem_cons.mp hb with rfl | hb
  ·exact Nat.lt_succ_self _
  ·have:b=p:=by simpa using hb
   subst this
   exact Nat.lt_succ_of_lt plt
 ·intro i j vi vj s' Q' E' hi hj hq
  have hi:its.toArray[i]? = some vi:=hi
  have hj:its.toArray[j]? = some vj:=hj
  obtain ⟨a,ta,ea,rfl⟩:=zfn rv i vi (by simpa using hi)
  obtain ⟨b,tb,eb,rfl⟩:=zfn rv j vj (by simpa using hj)
  have hq:Q' (.bool (decide (ns[i]?.getD 0<ns[j]?.getD 0))) s':=hq
  rw [ea,eb] at hq
  exact lt_int hq
 ·have hv:its.toArray[argBest (fun i j=>decide (ns[i]?.getD 0<ns[j]?.getD 0)) (its.toArray.size - 1)]? = some v:=hv
  obtain ⟨a,ta,ea,rfl⟩:=zfn rv _ v (by simpa using hv)
  have I1:Inv X pins σ H { s with heap:=h',toks:=tk }:=I.kept fun b o eb=>kk b o (by simp;exact Nat.ne_of_lt (Heap.lt_size eb)) (Heap.get?_push_of_some _ eb)
  refine ⟨.int a,H,I1,⟨ta,rfl⟩,q a (List.mem_of_getElem? ea) fun m hm=>?_⟩
  obtain ⟨k,hk,ek⟩:=List.mem_iff_getElem.mp hm
  have best:=(argBest_lt (fun i=>ns[i]?.getD 0) (its.toArray.size - 1)).2 k (by rw [List.size_toArray,hlen];lia)
  have best:ns[argBest (fun i j=>decide (ns[i]?.getD 0<ns[j]?.getD 0)) (its.toArray.size - 1)]?.getD 0<=ns[k]?.getD 0:=best
  rw [List.size_toArray] at best
  rw [ea,List.getElem?_eq_getElem hk,ek] at best
  simpa using best
end
end L3
namespace L3
open PySem PySem.Spec
open PyProof.Rows hiding St
open L2
section
variable {K : PySem.W.Frag} {O : Ob} {F : Addr → Prop} {H : Hp}
theorem zfe:∀ {vs:List V} {ys:List Str},IsAll K F H vs (ys.map .str)->vs=ys.map V.str
 | _,[],h=>by cases h;rfl
 | _,y::ys,h=>by
   rw [List.map_cons] at h
   cases h with
   | cons h1 h2=>cases h1;rw [zfe h2];rfl
theorem zik:∀ {vs:List V} {ns:List Int},IsAll K F H vs (ns.map .int)->vs=ns.map V.int
 | _,[],h=>by cases h;rfl
 | _,y::ys,h=>by
   rw [List.map_cons] at h
   cases h with
   | cons h1 h2=>cases h1;rw [zik h2];rfl
theorem zhd:∀ {vs:List V} {bs:List Bool},IsAll K F H vs (bs.map .bool)->vs=bs.map V.bl
 | _,[],h=>by cases h;rfl
 | _,y::ys,h=>by
   rw [List.map_cons] at h
   cases h with
   | cons h1 h2=>cases h1;rw [zhd h2];rfl
theorem zib:∀ (ys:List Str),IsAll K F H (ys.map V.str) (ys.map .str)
 | [] => .nil
 | y::ys => .cons (.str y) (zib ys)
theorem zkn {vs:List V} {ds:List PyData} {i:Int} {d:PyData} (h:IsAll K F H vs ds) (e:atI ds i=some d):∃ v,atI vs i=some v/\Is K F H v d:=by
 unfold atI at e ⊢
 rw [h.length]
 cases q:ixN ds.length i with
 | none=>rw [q] at e;cases e
 | some j =>
   rw [q] at e
   obtain ⟨v,hv,iv⟩:=h.get (i:=j) e
   exact ⟨v,hv,iv⟩
theorem zf0 {vs:List V} {ds:List PyData} (h:IsAll K F H vs ds) (lo hi:Option Int):IsAll K F H (cutV vs lo hi) (cutL ds lo hi):=by
 unfold cutV cutL
 rw [h.length]
 exact (h.drop _).take _
theorem zcp {H:Hp} {p:Addr} {vs:List V} {ds:List PyData} (ok:O.Ok) (hp:H p=none) (h:IsAll K (unM O) H vs ds):Stp O H (upd H p (.lst vs))/\Out K O H (upd H p (.lst vs)) (.ref p) (.n ds):=by
 have s:Stp O H (upd H p (.lst vs)) := .new ok hp _
 exact ⟨s,p,vs,rfl,hp,zai,h.stp s (fun _ z=>z) (fun _ z=>z)⟩
theorem zgv {H:Hp} {p:Addr} {vs:List V} {ds:List PyData} (ok:O.Ok) (hp:H p=none) (h:IsAll K (unM O) H vs ds):Stp O H (upd H p (.tup vs))/\Out K O H (upd H p (.tup vs)) (.ref p) (.o (.tuple ds)):=by
 have s:Stp O H (upd H p (.tup vs)) := .new ok hp _
 exact ⟨s,Is.tuple (.of zai) (h.stp s (fun _ z=>z) (fun _ z=>z))⟩
noncomputable def okD (d:PyData):Bool:=d.canLay0 && decide (d.depth<=60)
noncomputable def eqF (neg:Bool):PyData->PyData->Option R:=fun d e=>if (okD d && e.canLay0)=true then some (.o (.bool (if neg then !PyData.eqv d e else PyData.eqv d e))) else none
theorem zmt (neg:Bool):OpD K O (rEqD K neg) (fn2 (eqF neg)):=fun H x y d e Q Qd ok p ix iy ⟨r,hr,q⟩ k=>by
 unfold eqF at hr
 split at hr
 ·rename_i hc
  cases hr
  simp only [Bool.and_eq_true,okD,decide_eq_true_eq] at hc
  exact ⟨_,_,d,e,ix,iy,hc.1.1,hc.2,hc.1.2,k _ H (.o _) (.refl _ _) (Is.bool _) q⟩
 ·cases hr
noncomputable def inF (neg:Bool):PyData->PyData->Option R:=fun d e=>match d,e with
 | .str x,.str y=>some (.o (.bool (if neg then !(!(Builtin.Str.occurrences y x 0 y.length 1).isEmpty) else !(Builtin.Str.occurrences y x 0 y.length 1).isEmpty)))
 | d,.list es=>if (okD d && PyData.canLayAll0 es)=true then some (.o (.bool (if neg then !es.any (fun y=>PyData.eqv y d) else es.any fun y=>PyData.eqv y d))) else none
 | d,.tuple es=>if (okD d && PyData.canLayAll0 es)=true then some (.o (.bool (if neg then !es.any (fun y=>PyData.eqv y d) else es.any fun y=>PyData.eqv y d))) else none
 | _,_=>none
noncomputable def rInU (K:PySem.W.Frag):R2:=fun x y H Q=>(∃ i j,x = .str i/\y = .str j/\Q (.bl (!(Builtin.Str.occurrences j i 0 j.length 1).isEmpty)) H)\/rInD K false x y H Q
noncomputable def zjs (K:PySem.W.Frag):R2:=fun x y H Q=>(∃ i j,x = .str i/\y = .str j/\Q (.bl (!(!(Builtin.Str.occurrences j i 0 j.length 1).isEmpty))) H)\/rInD K true x y H Q
theorem z0s {X:Cx} (hu:X.A.units+64<cLine):OpR X (compareOp .In) (rInU X.K):=op_in_str.or (z2m hu)
theorem zt6 {X:Cx} (hu:X.A.units+64<cLine):OpR X (compareOp .NotIn) (zjs X.K):=op_notin_str.or (zti hu)
theorem zou {neg:Bool} {H:Hp} {x y:V} {d e:PyData} {Q:VK} {Qd:R->Prop} (ix:Is K (unM O) H x d) (iy:Is K (unM O) H y e) (q:fn2 (inF neg) d e Qd) (k:∀ v H' r,Stp O H H'->Out K O H H' v r->Qd r->Q v H') :
 (∃ i j,x = .str i/\y = .str j/\Q (.bl (if neg then !(!(Builtin.Str.occurrences j i 0 j.length 1).isEmpty) else !(Builtin.Str.occurrences j i 0 j.length 1).isEmpty)) H)\/rInD K neg x y H Q:=by
 obtain ⟨r,hr,q⟩:=q
 unfold inF at hr
 split at hr
 ·rename_i a b
  cases ix
  cases iy
  cases hr
  exact .inl ⟨a,b,rfl,rfl,k _ H (.o _) (.refl _ _) (Is.bool _) q⟩
 ·split at hr
  ·rename_i hc
   cases hr
   simp only [Bool.and_eq_true,okD,decide_eq_true_eq] at hc
   exact .inr ⟨_,_,_,_,ix,.inl iy,hc.1.1,hc.2,hc.1.2,k _ H (.o _) (.refl _ _) (Is.bool _) q⟩
  ·cases hr
 ·split at hr
  ·rename_i hc
   cases hr
   simp only [Bool.and_eq_true,okD,decide_eq_true_eq] at hc
   exact .inr ⟨_,_,_,_,ix,.inr iy,hc.1.1,hc.2,hc.1.2,k _ H (.o _) (.refl _ _) (Is.bool _) q⟩
  ·cases hr
 ·cases hr
theorem zt8:OpD K O (rInU K) (fn2 (inF false)):=fun H x y d e Q Qd ok p ix iy q k=>zou ix iy q k
theorem zrw:OpD K O (zjs K) (fn2 (inF true)):=fun H x y d e Q Qd ok p ix iy q k=>zou (neg:=true) ix iy q k
noncomputable def intF (g:Int->Int->PyData):PyData->PyData->Option R
 | .int i,.int j=>some (.o (g i j))
 | _,_=>none
theorem zmd {g:Int->Int->V} {G:Int->Int->PyData} (h:∀ i j H,Is K (unM O) H (g i j) (G i j)):OpD K O (rI0 g) (fn2 (intF G)):=fun H x y d e Q Qd ok p ix iy ⟨r,hr,q⟩ k=>by
 unfold intF at hr
 split at hr
 ·cases ix
  cases iy
  cases hr
  exact ⟨_,_,rfl,rfl,k _ H (.o _) (.refl _ _) (h _ _ H) q⟩
 ·cases hr
theorem z1x:OpD K O (rI0 fun i j => .bl (decide (i<j))) (fn2 (intF fun i j => .bool (decide (i<j)))):=zmd fun _ _ _ => .bool _
theorem z1p:OpD K O (rI0 fun i j => .bl (decide (j<i))) (fn2 (intF fun i j => .bool (decide (j<i)))):=zmd fun _ _ _ => .bool _
noncomputable def isNF (neg:Bool):PyData->PyData->(R->Prop)->Prop:=fun d e Q=>e = .none/\Q (.o (.bool (match d with | .none=>!neg | _=>neg)))
theorem Is.non {v:V} {d:PyData} (h:Is K F H v d):decide (v = .non)=(match d with | .none=>true | _=>false):=by cases h <;> rfl
theorem zo6:OpD K O (fun x y H Q=>y = .non/\Q (.bl (decide (x = .non))) H) (isNF false):=fun H x y d e Q Qd ok p ix iy ⟨e1,q⟩ k=>by
 subst e1
 cases iy
 refine ⟨rfl,k _ H (.o _) (.refl _ _) ?_ q⟩
 rw [ix.non]
 cases d <;> exact Is.bool _
theorem zul:OpD K O (fun x y H Q=>y = .non/\Q (.bl (!decide (x = .non))) H) (isNF true):=fun H x y d e Q Qd ok p ix iy ⟨e1,q⟩ k=>by
 subst e1
 cases iy
 refine ⟨rfl,k _ H (.o _) (.refl _ _) ?_ q⟩
 rw [ix.non]
 cases d <;> exact Is.bool _
noncomputable def zxd (K:PySem.W.Frag):R2:=fun x y H Q=>rI0 (fun i j => .int (i+j)) x y H Q\/(∃ i j,x = .str i/\y = .str j/\i.length+j.length<=sizeLine/\Q (.str (i++j)) H)\/rCat x y H Q\/zwk K x y H Q\/zsj K x y H Q
theorem zze {X:Cx}:OpR X (binaryOp .Add) (zxd X.K):=op_add.or (op_add_str.or (op_cat.or (op_catT.or zv2)))
noncomputable def addF:PyData->PyData->Option R:=fun d e=>match d,e with
 | .int i,.int j=>some (.o (.int (i+j)))
 | .str x,.str y=>if x.length+y.length<=sizeLine then some (.o (.str (x++y))) else none
 | .list a,.list b=>if a.length+b.length<=sizeLine then some (.n (a++b)) else none
 | .tuple a,.tuple b=>if a.length+b.length<=sizeLine then some (.o (.tuple (a++b))) else none
 | _,_=>none
theorem zyn:OpD K O (zxd K) (fn2 addF):=fun H x y d e Q Qd ok p ix iy ⟨r,hr,q⟩ k=>by
 unfold addF at hr
 split at hr
 ·cases ix
  cases iy
  cases hr
  exact .inl ⟨_,_,rfl,rfl,k _ H (.o _) (.refl _ _) (Is.int _) q⟩
 ·split at hr
  ·rename_i hz
   cases ix
   cases iy
   cases hr
   exact .inr (.inl ⟨_,_,rfl,rfl,hz,k _ H (.o _) (.refl _ _) (Is.str _) q⟩)
  ·cases hr
 ·split at hr
  ·rename_i hz
   cases hr
   cases ix with
   | list f1 h1 s1 =>
     cases iy with
     | list f2 h2 s2 =>
       refine .inr (.inr (.inl ⟨_,_,_,_,rfl,rfl,h1,h2,by rw [s1.length,s2.length];exact hz,fun p' hp=>?_⟩))
       obtain ⟨a1,a2⟩:=zcp ok hp (s1.append s2)
       exact k _ _ _ a1 a2 q
  ·cases hr
 ·split at hr
  ·rename_i hz
   cases hr
   cases ix with
   | tuple h1 s1 =>
     cases iy with
     | tuple h2 s2 =>
       rename_i a xs b ys
       cases xs with
       | nil =>
         cases s1
         exact .inr (.inr (.inr (.inr ⟨a,b,ys,rfl,rfl,h1,h2,k _ H (.o _) (.refl _ _) (Is.tuple h2 s2) q⟩)))
       | cons z zs =>
         refine .inr (.inr (.inr (.inl ⟨a,b,_,ys,rfl,rfl,h1,h2,by simp,by rw [s1.length,s2.length];exact hz,fun e=>?_,fun _ p' hp=>?_⟩)))
         ·subst e
          cases s2
          rw [List.append_nil] at q
          exact k _ H (.o _) (.refl _ _) (Is.tuple h1 s1) q
         ·obtain ⟨a1,a2⟩:=zgv ok hp (s1.append s2)
          exact k _ _ _ a1 a2 q
  ·cases hr
 ·cases hr
noncomputable def idxF:PyData->PyData->Option R:=fun d e=>match d,e with
 | .list ds,.int i=>(atI ds i).map .o
 | .tuple ds,.int i=>(atI ds i).map .o
 | .str x,.int i=>if x.length<=sizeLine then (atI x.cps.toList i).map fun c => .o (.str (sg c)) else none
 | _,_=>none
theorem zyj:OpD K O (rIx K) (fn2 idxF):=fun H x y d e Q Qd ok p ix iy ⟨r,hr,q⟩ k=>by
 unfold idxF at hr
 split at hr
 ·obtain ⟨z,hz,rfl⟩:=Option.map_eq_some_iff.mp hr
  cases iy
  cases ix with
  | list f1 h1 s1 =>
    obtain ⟨v,hv,iv⟩:=zkn s1 hz
    exact .inl ⟨_,_,_,v,rfl,rfl,.of h1,hv,k v H (.o z) (.refl _ _) iv q⟩
 ·obtain ⟨z,hz,rfl⟩:=Option.map_eq_some_iff.mp hr
  cases iy
  cases ix with
  | tuple h1 s1 =>
    obtain ⟨v,hv,iv⟩:=zkn s1 hz
    exact .inr (.inl ⟨_,_,_,v,rfl,rfl,h1,hv,k v H (.o z) (.refl _ _) iv q⟩)
 ·split at hr
  ·rename_i hl
   obtain ⟨c,hc,rfl⟩:=Option.map_eq_some_iff.mp hr
   cases iy
   cases ix
   exact .inr (.inr ⟨_,_,c,rfl,rfl,hl,hc,k _ H (.o _) (.refl _ _) (Is.str _) q⟩)
  ·cases hr
 ·cases hr
noncomputable abbrev DO:=DSt->(Option Int->Prop)->Prop
noncomputable def OD (K:PySem.W.Frag) (O:Ob) (t:TO) (f:DO):Prop :=
 ∀ (σ:St) (H:Hp) (ρ:DSt) (Q:Option Int->Hp->Prop) (Qd:Option Int->Prop),Seen K O H σ ρ->f ρ Qd->(∀ o H',Stp O H H'->Qd o->Q o H')->t σ H Q
noncomputable def noO:DO:=fun _ Q=>Q none
noncomputable def zwi (f:DE):DO:=fun ρ Q=>f ρ fun r=>∃ i,r.d = .int i/\Q (some i)
theorem zxp:OD K O zpu noO:=fun σ H ρ Q Qd S h k=>k none H (.refl _ _) h
theorem zzv {t:TE} {f:DE} (h:ED K O t f):OD K O (zlo t) (zwi f):=fun σ H ρ Q Qd S hf k=>by
 refine h σ H ρ _ _ S hf fun v H1 r s1 o1 ⟨i,e,q⟩=>?_
 have iv:=o1.is S.ok S.p
 rw [e] at iv
 cases iv
 exact ⟨i,rfl,k (some i) H1 s1 q⟩
noncomputable def slcF (lo hi:Option Int):PyData->Option R
 | .list ds=>some (.n (cutL ds lo hi))
 | .tuple ds=>some (.o (.tuple (cutL ds lo hi)))
 | .str x=>if x.length<=sizeLine then some (.o (.str (tx (cutL x.cps.toList lo hi)))) else none
 | _=>none
noncomputable def slD (f:DE) (a b:DO):DE:=fun ρ Q=>f ρ fun r=>a ρ fun lo=>b ρ fun hi=>∃ s,slcF lo hi r.d=some s/\Q s
theorem zv9 {t:TE} {tl th:TO} {f:DE} {a b:DO} (h:ED K O t f) (ha:OD K O tl a) (hb:OD K O th b):ED K O (tSl (rSl K) t tl th) (slD f a b):=fun σ H ρ Q Qd S hf k=>by
 refine h σ H ρ _ _ S hf fun v H1 r s1 o1 q1=>?_
 refine ha σ H1 ρ _ _ (S.stp s1) q1 fun lo H2 s2 q2=>?_
 refine hb σ H2 ρ _ _ ((S.stp s1).stp s2) q2 fun hi H3 s3 ⟨s,hr,q⟩=>?_
 have st:=(s1.trans s2).trans s3
 have iv:Is K (unM O) H3 v r.d:=Is.stp (s2.trans s3) (fun _ z=>z) (fun _ z=>z) (o1.is S.ok S.p)
 revert hr
 generalize r.d=d at iv
 intro hr
 unfold slcF at hr
 split at hr
 ·cases hr
  cases iv with
  | list f1 h1 z1 =>
    refine .inl ⟨_,_,rfl,.of h1,fun p hp=>?_⟩
    obtain ⟨a1,a2⟩:=zcp S.ok hp (zf0 z1 lo hi)
    exact k _ _ _ (st.trans a1) (Out.ahead S.ok S.p st a2) q
 ·cases hr
  cases iv with
  | tuple h1 z1 =>
    rename_i a' xs
    by_cases hw:HT.sIx xs.length 0 lo=0/\HT.sIx xs.length xs.length hi=xs.length
    ·refine .inr (.inr (.inl ⟨a',xs,rfl,h1,hw,k _ H3 (.o _) st ?_ q⟩))
     have e:cutV xs lo hi=xs:=by
      unfold cutV
      rw [hw.1,hw.2,List.drop_zero,Nat.sub_zero,List.take_length]
     have z2:=zf0 z1 lo hi
     rw [e] at z2
     exact Is.tuple h1 z2
    ·refine .inr (.inl ⟨a',xs,rfl,h1,hw,fun p hp=>?_⟩)
     obtain ⟨a1,a2⟩:=zgv S.ok hp (zf0 z1 lo hi)
     exact k _ _ _ (st.trans a1) (Out.ahead S.ok S.p st a2) q
 ·split at hr
  ·rename_i hl
   cases hr
   cases iv
   exact .inr (.inr (.inr ⟨_,rfl,hl,k _ H3 (.o _) st (Is.str _) q⟩))
  ·cases hr
 ·cases hr
noncomputable def lenF:List PyData->Option R
 | [.str x]=>if x.length<=sizeLine then some (.o (.int x.length)) else none
 | [.list ds]=>some (.o (.int ds.length))
 | [.tuple ds]=>some (.o (.int ds.length))
 | _=>none
theorem za4 {vs:List V} {d:PyData} (h:IsAll K F H vs [d]):∃ v,vs = [v]/\Is K F H v d:=by
 cases h with
 | cons h1 h2=>cases h2;exact ⟨_,rfl,h1⟩
theorem z2w:zdy K O (fun xs H Q=>∃ x n,xs = [x]/\LenV K x H n/\Q (.int n) H) (fn1 lenF):=fun H vs ds Q Qd ok p is ⟨r,hr,q⟩ k=>by
 unfold lenF at hr
 split at hr
 ·split at hr
  ·rename_i hl
   obtain ⟨v,rfl,iv⟩:=za4 is
   cases iv
   cases hr
   exact ⟨_,_,rfl,⟨hl,rfl⟩,k _ H (.o _) (.refl _ _) (Is.int _) q⟩
  ·cases hr
 ·obtain ⟨v,rfl,iv⟩:=za4 is
  cases hr
  cases iv with
  | list f1 h1 s1=>exact ⟨_,_,rfl,.inl ⟨_,.of h1,s1.length.symm⟩,k _ H (.o _) (.refl _ _) (Is.int _) q⟩
 ·obtain ⟨v,rfl,iv⟩:=za4 is
  cases hr
  cases iv with
  | tuple h1 s1=>exact ⟨_,_,rfl,.inr ⟨_,h1,s1.length.symm⟩,k _ H (.o _) (.refl _ _) (Is.int _) q⟩
 ·cases hr
noncomputable def allD (any:Bool):List PyData->(R->Prop)->Prop:=fun ds Q=>∃ bs:List Bool,ds = [.list (bs.map .bool)]/\Q (.o (.bool (if any then bs.any id else bs.all id)))
theorem z0g (any:Bool):zdy K O (rAll any) (allD any):=fun H vs ds Q Qd ok p is ⟨bs,e,q⟩ k=>by
 subst e
 obtain ⟨v,rfl,iv⟩:=za4 is
 cases iv with
 | list f1 h1 s1 =>
   rw [zhd s1] at h1
   exact ⟨_,bs,rfl,h1,k _ H (.o _) (.refl _ _) (Is.bool _) q⟩
noncomputable def zq9:List PyData->Option R
 | [.int i]=>some (.o (.int i))
 | [.bool b]=>some (.o (.int (if b then 1 else 0)))
 | _=>none
theorem z2j:zdy K O (fun xs H Q=>(∃ i,xs = [.int i]/\Q (.int i) H)\/∃ k,xs = [.bl k]/\Q (.int (if k then 1 else 0)) H) (fn1 zq9):=fun H vs ds Q Qd ok p is ⟨r,hr,q⟩ k=>by
 unfold zq9 at hr
 split at hr
 ·obtain ⟨v,rfl,iv⟩:=za4 is
  cases hr
  cases iv
  exact .inl ⟨_,rfl,k _ H (.o _) (.refl _ _) (Is.int _) q⟩
 ·obtain ⟨v,rfl,iv⟩:=za4 is
  cases hr
  cases iv
  exact .inr ⟨_,rfl,k _ H (.o _) (.refl _ _) (Is.int _) q⟩
 ·cases hr
noncomputable def tupF:List PyData->Option R
 | [.list ds]=>some (.o (.tuple ds))
 | [.tuple ds]=>some (.o (.tuple ds))
 | _=>none
theorem zui:zdy K O (fun xs H Q=>∃ p ys,xs = [.ref p]/\((SqL K H p ys/\∀ l,H l=none->Q (.ref l) (upd H l (.tup ys)))\/(SqT K H p ys/\Q (.ref p) H))) (fn1 tupF):=fun H vs ds Q Qd ok p is ⟨r,hr,q⟩ k=>by
 unfold tupF at hr
 split at hr
 ·obtain ⟨v,rfl,iv⟩:=za4 is
  cases hr
  cases iv with
  | list f1 h1 s1 =>
    refine ⟨_,_,rfl,.inl ⟨.of h1,fun l hl=>?_⟩⟩
    obtain ⟨a1,a2⟩:=zgv ok hl s1
    exact k _ _ _ a1 a2 q
 ·obtain ⟨v,rfl,iv⟩:=za4 is
  cases hr
  cases iv with
  | tuple h1 s1=>exact ⟨_,_,rfl,.inr ⟨h1,k _ H (.o _) (.refl _ _) (Is.tuple h1 s1) q⟩⟩
 ·cases hr
noncomputable def minD:List PyData->(R->Prop)->Prop:=fun ds Q=>∃ ns:List Int,ds = [.list (ns.map .int)]/\ns ≠ []/\∀ n,n ∈ ns->(∀ m ∈ ns,n<=m)->Q (.o (.int n))
theorem z0e:zdy K O zwy minD:=fun H vs ds Q Qd ok p is ⟨ns,e,hl,q⟩ k=>by
 subst e
 obtain ⟨v,rfl,iv⟩:=za4 is
 cases iv with
 | list f1 h1 s1 =>
   rw [zik s1] at h1
   exact ⟨_,ns,rfl,h1,hl,fun n h2 h3=>k _ H (.o _) (.refl _ _) (Is.int _) (q n h2 h3)⟩
noncomputable def zg3:List PyData->Option R
 | [d]=>if (d.showable && !d.hasDict && decide (d.depth<=60) && decide (d.shown.length<=sizeLine))=true then some (.o (.str d.shown)) else none
 | _=>none
theorem zza:zdy K O (zwg K) (fn1 zg3):=fun H vs ds Q Qd ok p is ⟨r,hr,q⟩ k=>by
 unfold zg3 at hr
 split at hr
 ·split at hr
  ·rename_i hc
   cases hr
   obtain ⟨v,rfl,iv⟩:=za4 is
   simp only [Bool.and_eq_true,decide_eq_true_eq,Bool.not_eq_true'] at hc
   exact ⟨v,_,_,rfl,iv,hc.1.1.1,hc.1.1.2,hc.1.2,hc.2,k _ H (.o _) (.refl _ _) (Is.str _) q⟩
  ·cases hr
 ·cases hr
noncomputable def lrD1 (g:DA):DE:=fun ρ Q=>g ρ fun ds=>∃ j:Int,ds = [.int j]/\-(2 ^ 20)<=j/\j<=2 ^ 20/\Q (.n (zbl 0 j.toNat))
noncomputable def lrD2 (g:DA):DE:=fun ρ Q=>g ρ fun ds=>∃ i j:Int,ds = [.int i,.int j]/\(-(2 ^ 20)<=i/\i<=2 ^ 20/\-(2 ^ 20)<=j/\j<=2 ^ 20)/\Q (.n (zbl i (j - i).toNat))
theorem ziq (lo:Int) (n:Nat):IsAll K F H ((List.range n).map fun k=>V.int (lo+(k:Nat))) (zbl lo n):=by
 unfold zbl
 generalize List.range n=l
 induction l with
 | nil=>exact .nil
 | cons a l ih=>exact .cons (.int _) ih
theorem z3e {t:TA} {g:DA} (h:AD K O t g):ED K O (tCB zmg (zav (tCB (fun xs H Q=>∃ j:Int,xs = [.int j]/\∀ p,H p=none->Q (.ref p) (upd H p (.rng 0 j))) t) tNil)) (lrD1 g):=fun σ H ρ Q Qd S hf k=>by
 refine h σ H ρ _ _ S hf fun vs H1 ds s1 is ⟨j,e,b1,b2,q⟩=>?_
 subst e
 obtain ⟨v,rfl,iv⟩:=za4 is
 cases iv
 refine ⟨j,rfl,fun p hp=>?_⟩
 have s2:Stp O H1 (upd H1 p (.rng 0 j)) := .new S.ok hp _
 refine ⟨p,0,j,rfl,zai,⟨by decide,by decide,b1,b2⟩,fun l hl=>?_⟩
 rw [Int.sub_zero]
 obtain ⟨a1,a2⟩:=zcp (K:=K) S.ok hl (ziq 0 j.toNat)
 exact k _ _ _ ((s1.trans s2).trans a1) (Out.ahead S.ok S.p (s1.trans s2) a2) q
theorem z0m {t:TA} {g:DA} (h:AD K O t g):ED K O (tCB zmg (zav (tCB (fun xs H Q=>∃ i j:Int,xs = [.int i,.int j]/\∀ p,H p=none->Q (.ref p) (upd H p (.rng i j))) t) tNil)) (lrD2 g):=fun σ H ρ Q Qd S hf k=>by
 refine h σ H ρ _ _ S hf fun vs H1 ds s1 is ⟨i,j,e,b,q⟩=>?_
 subst e
 cases is with
 | cons i1 is =>
   cases is with
   | cons i2 is =>
     cases is
     cases i1
     cases i2
     refine ⟨i,j,rfl,fun p hp=>?_⟩
     have s2:Stp O H1 (upd H1 p (.rng i j)) := .new S.ok hp _
     refine ⟨p,i,j,rfl,zai,b,fun l hl=>?_⟩
     obtain ⟨a1,a2⟩:=zcp (K:=K) S.ok hl (ziq i (j - i).toNat)
     exact k _ _ _ ((s1.trans s2).trans a1) (Out.ahead S.ok S.p (s1.trans s2) a2) q
noncomputable def zwj (fo:DE) (fa:DE):DE:=fun ρ Q=>fo ρ fun r0=>∃ sep,r0.d = .str sep/\fa ρ fun r=>∃ ys:List Str,r.d = .list (ys.map .str)/\(ys.map (·.length)).sum+ys.length * sep.length<=16777216/\Q (.o (.str (Txt.join sep ys)))
theorem zzq {to ta:TE} {fo fa:DE} (ho:ED K O to fo) (ha:ED K O ta fa):ED K O (tBM K "str" zij to (zav ta tNil)) (zwj fo fa):=fun σ H ρ Q Qd S hf k=>by
 refine ho σ H ρ _ _ S hf fun v H1 r0 s1 o1 ⟨sep,e0,q1⟩=>?_
 have i0:=o1.is S.ok S.p
 rw [e0] at i0
 cases i0
 refine ⟨rfl,?_⟩
 refine ha σ H1 ρ _ _ (S.stp s1) q1 fun w H2 r s2 o2 ⟨ys,e,hz,q⟩=>?_
 have i1:=o2.is S.ok (s1.p S.p)
 rw [e] at i1
 cases i1 with
 | list f1 h1 z1 =>
   rw [zfe z1] at h1
   exact ⟨sep,_,ys,rfl,rfl,h1,hz,k _ H2 (.o _) (s1.trans s2) (Is.str _) q⟩
end
end L3
namespace L3
open PySem PySem.Spec
open PyProof.Rows hiding St
open L2
structure Ctx3 {ι:Type} (P:Program) (w:World) (K:PySem.W.Frag) (mg:Str->Option Value) (base:Heap) (k:Nat) (X:ι->Cx):Prop where
 hP:∀ i,(X i).prog=P
 hw:∀ i,(X i).w=w
 hK:∀ i,(X i).K=K
 hmg:∀ i,(X i).mg=mg
 hb:∀ i,(X i).base=base
 calm:∀ i,(X i).calm=true
 room:∀ i,Room k (X i).A
 xe:∀ i,(X i).xe=fun _ _=>False
noncomputable def E3 {ι κ:Type} (K:PySem.W.Frag) (X:ι->Cx) (O:κ->Ob) (e:Expr) (f:DE):Prop:=∃ t,(∀ i,PE (X i) e t)/\∀ j,ED K (O j) t f
noncomputable def T3 {ι κ:Type} (K:PySem.W.Frag) (X:ι->Cx) (O:κ->Ob) (e:Expr) (f:DT):Prop:=∃ t,(∀ i,PT (X i) e t)/\∀ j,TD K (O j) t f
noncomputable def W3 {ι κ:Type} (K:PySem.W.Frag) (X:ι->Cx) (O:κ->Ob) (e:Expr) (f:DT):Prop:=∃ t,(∀ i,PW (X i) e t)/\∀ j,TD K (O j) t f
noncomputable def A3 {ι κ:Type} (K:PySem.W.Frag) (X:ι->Cx) (O:κ->Ob) (es:List Expr) (f:DA):Prop:=∃ t,(∀ i,PA (X i) es t)/\∀ j,AD K (O j) t f
noncomputable def I3 {ι κ:Type} (K:PySem.W.Frag) (X:ι->Cx) (O:κ->Ob) (tg e:Expr) (f:DI):Prop:=∃ t,(∀ i,PI (X i) tg e t)/\∀ j,SrcS K (O j) t f
noncomputable def J3 {ι κ:Type} (K:PySem.W.Frag) (X:ι->Cx) (O:κ->Ob) (tg e:Expr) (f:DJ):Prop:=∃ t,(∀ i,PI (X i) tg e t)/\∀ j,SrcR K (O j) t f
noncomputable def S3 {ι κ:Type} (K:PySem.W.Frag) (X:ι->Cx) (O:κ->Ob) (s:Stmt) (g:DS):Prop:=∃ t,(∀ i,PS (X i) s t)/\∀ j,SD K (O j) t g
noncomputable def Ss3 {ι κ:Type} (K:PySem.W.Frag) (X:ι->Cx) (O:κ->Ob) (s:List Stmt) (g:DS):Prop:=∃ t,(∀ i,PSs (X i) s t)/\∀ j,SD K (O j) t g
noncomputable def O3 {ι κ:Type} (K:PySem.W.Frag) (X:ι->Cx) (O:κ->Ob) (e:Option Expr) (f:DO):Prop:=∃ t,(∀ i,PO (X i) e t)/\∀ j,OD K (O j) t f
noncomputable def G3 {ι:Type} (K:PySem.W.Frag) (X:ι->Cx) (h:Nat) (tg:Expr) (g:DG):Prop:=∃ t,(∀ i,PG (X i) tg t)/\(∀ O:Ob,GS K O t g)/\(∀ O:Ob,GR K O t g)/\OwnG h t
section
variable {ι κ : Type} {P : Program} {w : World} {K : PySem.W.Frag} {mg : Str → Option Value} {base : Heap} {k : Nat} {X : ι → Cx} {O : κ → Ob} {a b c : Expr} {fa fb fc : DE} {pos : Pos}
theorem zaa (n:Nat) {x:Str} (hN:∀ i,(X i).N[n]? = some x:=by intro i;rfl) (hv:∀ i,Vis (X i).env.scope x:=by intro i;first | exact Or.inl rfl | exact Or.inr (Or.inl rfl) | exact Or.inr (Or.inr rfl))
 (hd:(x == ("__debug__" : Str))=false:=by decide) (hcd:(x == ("__classdict__" : Str))=false:=by decide):E3 K X O (.Name x pos) (vD n):=⟨_,fun i=>zak (hN i) (hv i) hd hcd,fun j=>z1o⟩
theorem zaj {n:Int} {j:Nat}:E3 K X O (.Constant (.int n) j pos) (cD (.int n)):=⟨_,fun i=>zal,fun j=>z1i⟩
theorem zb3 {x:Str} {j:Nat}:E3 K X O (.Constant (.str x) j pos) (cD (.str x)):=⟨_,fun i=>zm6,fun j=>z2v⟩
theorem e_bl {x:Bool} {j:Nat}:E3 K X O (.Constant (.bool x) j pos) (cD (.bool x)):=⟨_,fun i=>z4e,fun j=>z3w⟩
theorem zfp {j:Nat}:E3 K X O (.Constant .none j pos) (cD .none):=⟨_,fun i=>z0x,fun j=>z0f⟩
theorem e_op {op:Operator} {r:R2} {F:PyData->PyData->(R->Prop)->Prop} (ho:∀ i,OpR (X i) (binaryOp op) r) (hd:∀ j,OpD K (O j) r F) (ha:E3 K X O a fa) (hb:E3 K X O b fb):E3 K X O (.BinOp a op b pos) (opDE F fa fb) :=
 let ⟨_,p1,d1⟩:=ha;let ⟨_,p2,d2⟩:=hb; ⟨_,fun i=>za5 (ho i) (p1 i) (p2 i),fun j=>zlm (hd j) (d1 j) (d2 j)⟩
theorem zaw (C:Ctx3 P w K mg base k X) (ha:E3 K X O a fa) (hb:E3 K X O b fb):E3 K X O (.BinOp a .Add b pos) (opDE (fn2 addF) fa fb):=e_op (fun i=>by have h:=zze (X:=X i);rw [C.hK] at h;exact h) (fun _=>zyn) ha hb
theorem zqx {op:CmpOp} {r:R2} {F:PyData->PyData->(R->Prop)->Prop} (ho:∀ i,OpR (X i) (compareOp op) r) (hd:∀ j,OpD K (O j) r F) (ha:E3 K X O a fa) (hb:E3 K X O b fb) (hm:behindInMarks op b=false):E3 K X O (.Compare a [op] [b] pos) (opDE F fa fb) :=
 let ⟨_,p1,d1⟩:=ha;let ⟨_,p2,d2⟩:=hb; ⟨_,fun i=>zya (ho i) (p1 i) (p2 i) hm,fun j=>zlm (hd j) (d1 j) (d2 j)⟩
theorem zen {op:CmpOp} {r:R2} {F:PyData->PyData->(R->Prop)->Prop} (ho:∀ i,OpR (X i) (compareOp op) r) (hd:∀ j,OpD K (O j) r F) (ha:E3 K X O a fa) (hb:E3 K X O b fb) (hm:behindInMarks op b=false):T3 K X O (.Compare a [op] [b] pos) (bD (opDE F fa fb)) :=
 let ⟨_,p1,d1⟩:=ha;let ⟨_,p2,d2⟩:=hb; ⟨_,fun i=>ze1 (ho i) (p1 i) (p2 i) hm,fun j=>z2i (zlm (hd j) (d1 j) (d2 j))⟩
theorem zw7 (C:Ctx3 P w K mg base k X):∀ i,OpR (X i) (compareOp .Eq) (rEqD K false):=fun i=>by have h:=z2r (X:=X i) (C.room i).units;rw [C.hK] at h;exact h
theorem z3k (C:Ctx3 P w K mg base k X):∀ i,OpR (X i) (compareOp .NotEq) (rEqD K true):=fun i=>by have h:=z1f (X:=X i) (C.room i).units;rw [C.hK] at h;exact h
theorem zwt (C:Ctx3 P w K mg base k X):∀ i,OpR (X i) (compareOp .In) (rInU K):=fun i=>by have h:=z0s (X:=X i) (C.room i).units;rw [C.hK] at h;exact h
theorem zvy (C:Ctx3 P w K mg base k X):∀ i,OpR (X i) (compareOp .NotIn) (zjs K):=fun i=>by have h:=zt6 (X:=X i) (C.room i).units;rw [C.hK] at h;exact h
theorem e_eq (C:Ctx3 P w K mg base k X) (ha:E3 K X O a fa) (hb:E3 K X O b fb):E3 K X O (.Compare a [.Eq] [b] pos) (opDE (fn2 (eqF false)) fa fb):=zqx (zw7 C) (fun _=>zmt false) ha hb (zb5 b)
theorem e_in (C:Ctx3 P w K mg base k X) (ha:E3 K X O a fa) (hb:E3 K X O b fb) (hm:behindInMarks .In b=false:=by rfl):E3 K X O (.Compare a [.In] [b] pos) (opDE (fn2 (inF false)) fa fb):=zqx (zwt C) (fun _=>zt8) ha hb hm
theorem e_is (ha:E3 K X O a fa) (hb:E3 K X O b fb):E3 K X O (.Compare a [.Is] [b] pos) (opDE (isNF false) fa fb):=zqx (fun i=>zrs) (fun _=>zo6) ha hb (zb5 b)
theorem t_eq (C:Ctx3 P w K mg base k X) (ha:E3 K X O a fa) (hb:E3 K X O b fb):T3 K X O (.Compare a [.Eq] [b] pos) (bD (opDE (fn2 (eqF false)) fa fb)):=zen (zw7 C) (fun _=>zmt false) ha hb (zb5 b)
theorem t_ne (C:Ctx3 P w K mg base k X) (ha:E3 K X O a fa) (hb:E3 K X O b fb):T3 K X O (.Compare a [.NotEq] [b] pos) (bD (opDE (fn2 (eqF true)) fa fb)):=zen (z3k C) (fun _=>zmt true) ha hb (zb5 b)
theorem t_lt (ha:E3 K X O a fa) (hb:E3 K X O b fb):T3 K X O (.Compare a [.Lt] [b] pos) (bD (opDE (fn2 (intF fun i j => .bool (decide (i<j)))) fa fb)):=zen (fun i=>z4d) (fun _=>z1x) ha hb (zb5 b)
theorem t_gt (ha:E3 K X O a fa) (hb:E3 K X O b fb):T3 K X O (.Compare a [.Gt] [b] pos) (bD (opDE (fn2 (intF fun i j => .bool (decide (j<i)))) fa fb)):=zen (fun i=>zqq) (fun _=>z1p) ha hb (zb5 b)
theorem t_in (C:Ctx3 P w K mg base k X) (ha:E3 K X O a fa) (hb:E3 K X O b fb) (hm:behindInMarks .In b=false:=by rfl):T3 K X O (.Compare a [.In] [b] pos) (bD (opDE (fn2 (inF false)) fa fb)):=zen (zwt C) (fun _=>zt8) ha hb hm
theorem zyp (C:Ctx3 P w K mg base k X) (ha:E3 K X O a fa) (hb:E3 K X O b fb) (hm:behindInMarks .NotIn b=false:=by rfl):T3 K X O (.Compare a [.NotIn] [b] pos) (bD (opDE (fn2 (inF true)) fa fb)):=zen (zvy C) (fun _=>zrw) ha hb hm
theorem t_is (ha:E3 K X O a fa) (hb:E3 K X O b fb):T3 K X O (.Compare a [.Is] [b] pos) (bD (opDE (isNF false) fa fb)):=zen (fun i=>zrs) (fun _=>zo6) ha hb (zb5 b)
theorem zpd (ha:E3 K X O a fa) (hb:E3 K X O b fb):T3 K X O (.Compare a [.IsNot] [b] pos) (bD (opDE (isNF true) fa fb)):=zen (fun i=>zz0) (fun _=>zul) ha hb (zb5 b)
variable {ft fu : DT} {rest : List Expr}
theorem zia (ha:E3 K X O a fa) (he:∀ i whole,isTrue a (X i).env whole=(do let v <- whole;standAt a.pos;holding [v] (truthy v)):=by intro _ _;rfl):T3 K X O a (bD fa):=let ⟨_,p,d⟩:=ha; ⟨_,fun i=>z0z (p i) (he i),fun j=>zzi (d j)⟩
theorem zwo (h:T3 K X O a ft):T3 K X O (.UnaryOp .Not a pos) (notT ft):=let ⟨_,p,d⟩:=h; ⟨_,fun i=>z2g (p i),fun j=>zz9 (d j)⟩
theorem zf8 (h:T3 K X O a ft):W3 K X O (.BoolOp .And [a] pos) ft:=let ⟨_,p,d⟩:=h; ⟨_,fun i=>zox (p i),d⟩
theorem zqv (h:T3 K X O a ft):W3 K X O (.BoolOp .Or [a] pos) ft:=let ⟨_,p,d⟩:=h; ⟨_,fun i=>z3c (p i),d⟩
theorem zih (h:T3 K X O a ft) (h':W3 K X O (.BoolOp .And (b::rest) pos) fu):W3 K X O (.BoolOp .And (a::b::rest) pos) (andT ft fu):=let ⟨_,p,d⟩:=h;let ⟨_,p2,d2⟩:=h'; ⟨_,fun i=>zrv (p i) (p2 i),fun j=>z0r (d j) (d2 j)⟩
theorem w_or (h:T3 K X O a ft) (h':W3 K X O (.BoolOp .Or (b::rest) pos) fu):W3 K X O (.BoolOp .Or (a::b::rest) pos) (orT ft fu):=let ⟨_,p,d⟩:=h;let ⟨_,p2,d2⟩:=h'; ⟨_,fun i=>z3r (p i) (p2 i),fun j=>z4l (d j) (d2 j)⟩
theorem t_w (h:W3 K X O a ft):T3 K X O a ft:=let ⟨_,p,d⟩:=h; ⟨_,fun i=>(p i).pt,d⟩
theorem zww {op:BoolOp} (h:E3 K X O a fa):E3 K X O (.BoolOp op [a] pos) fa:=let ⟨_,p,d⟩:=h; ⟨_,fun i=>z2c (p i),d⟩
theorem zwm (h:E3 K X O a fa) (h':E3 K X O (.BoolOp .And (b::rest) pos) fb):E3 K X O (.BoolOp .And (a::b::rest) pos) (andV fa fb):=let ⟨_,p,d⟩:=h;let ⟨_,p2,d2⟩:=h'; ⟨_,fun i=>z1y (p i) (p2 i),fun j=>zzo (d j) (d2 j)⟩
theorem e_if (hc:T3 K X O c ft) (ha:E3 K X O a fa) (hb:E3 K X O b fb):E3 K X O (.IfExp c a b pos) (ifD ft fa fb):=let ⟨_,p,d⟩:=hc;let ⟨_,p1,d1⟩:=ha;let ⟨_,p2,d2⟩:=hb; ⟨_,fun i=>zvd (p i) (p1 i) (p2 i),fun j=>z4a (d j) (d1 j) (d2 j)⟩
variable {es : List Expr} {ga : DA}
theorem zac:A3 K X O [] aNil:=⟨_,fun i=>za6,fun j=>z1a⟩
theorem zab (ha:E3 K X O a fa) (hr:A3 K X O es ga) (hs:∀ i,starEach (a::es) (X i).env=(false,eval a (X i).env)::starEach es (X i).env:=by intro i;rfl):A3 K X O (a::es) (zcc fa ga):=let ⟨_,p,d⟩:=ha;let ⟨_,p2,d2⟩:=hr; ⟨_,fun i=>zas (p i) (p2 i) (hs i),fun j=>zzb (d j) (d2 j)⟩
theorem za8 {n:Nat} (h:A3 K X O es ga):E3 K X O (.Tuple es n pos) (tupD ga):=let ⟨_,p,d⟩:=h; ⟨_,fun i=>z0l (p i),fun j=>z3f (d j)⟩
theorem zcb (h:A3 K X O es ga):E3 K X O (.List es pos) (lstD ga):=let ⟨_,p,d⟩:=h; ⟨_,fun i=>zl3 (p i),fun j=>z1s (d j)⟩
theorem za2 (C:Ctx3 P w K mg base k X) (ha:E3 K X O a fa) (hb:E3 K X O b fb) (hs:zor b:=by intro _ _;rfl):E3 K X O (.Subscript a b pos) (opDE (fn2 idxF) fa fb) :=
 let ⟨_,p1,d1⟩:=ha;let ⟨_,p2,d2⟩:=hb; ⟨tOp (rIx K) _ _,fun i=>by have h:=zd1 (pos:=pos) (z2b (X:=X i)) (p1 i) (p2 i) hs;rw [C.hK] at h;exact h,fun j=>zlm zyj (d1 j) (d2 j)⟩
theorem zbp:O3 K X O none noO:=⟨_,fun i=>zzr,fun j=>zxp⟩
theorem zbo (ha:E3 K X O a fa):O3 K X O (some a) (zwi fa):=let ⟨_,p,d⟩:=ha; ⟨_,fun i=>zjf (p i),fun j=>zzv (d j)⟩
theorem zbd (C:Ctx3 P w K mg base k X) {lo hi:Option Expr} {fl fh:DO} {p2:Pos} (ha:E3 K X O a fa) (hl:O3 K X O lo fl) (hh:O3 K X O hi fh):E3 K X O (.Subscript a (.Slice lo hi none p2) pos) (slD fa fl fh) :=
 let ⟨_,p1,d1⟩:=ha;let ⟨_,q2,d2⟩:=hl;let ⟨_,q3,d3⟩:=hh; ⟨tSl (rSl K) _ _ _,fun i=>by have h:=znp (pos:=pos) (p2:=p2) (z0k (X:=X i)) (p1 i) (q2 i) (q3 i);rw [C.hK] at h;exact h,fun j=>zv9 (d1 j) (d2 j) (d3 j)⟩
theorem zlq {x:Str} {id:String} {r:List V->Hp->VK->Prop} {F:List PyData->(R->Prop)->Prop} {p:Pos} (C:Ctx3 P w K mg base k X) (hc:∀ i,zb2 (X i) (.builtin id) r) (hd:∀ j,zdy K (O j) r F) (hv:bootBuiltins x=some (.builtin id)) (hm:mg x=none) (ha:A3 K X O (a::es) ga)
 (hg:∀ i,Gl (X i) x:=by intro i;rfl) (hn:x ≠ "__name__" := by decide) (hdb:(x == ("__debug__" : Str))=false:=by decide) (he:∀ i,starEach (a::es) (X i).env=(false,eval a (X i).env)::starEach es (X i).env:=by intro i;rfl) (hpl:∀ i,(backTo pos (starEach es (X i).env)).any (·.1)=false:=by intro i;rfl) :
 E3 K X O (.Call (.Name x p) (a::es) [] pos) (zbm F ga):=let ⟨_,q,d⟩:=ha; ⟨_,fun i=>zfm (hc i) (hg i) (by rw [C.hmg];exact hm) hv (q i) hn hdb (he i) (hpl i),fun j=>zmh (hd j) (d j)⟩
theorem zw5 {x:Str} {T:String} {r:List V->Hp->VK->Prop} {F:List PyData->(R->Prop)->Prop} {p:Pos} (C:Ctx3 P w K mg base k X) (hc:∀ i,zb2 (X i) (.type T) r) (hd:∀ j,zdy K (O j) r F) (hv:bootBuiltins x=some (.type T)) (hm:mg x=none) (ha:A3 K X O (a::es) ga)
 (hg:∀ i,Gl (X i) x:=by intro i;rfl) (hn:x ≠ "__name__" := by decide) (hdb:(x == ("__debug__" : Str))=false:=by decide) (he:∀ i,starEach (a::es) (X i).env=(false,eval a (X i).env)::starEach es (X i).env:=by intro i;rfl) (hpl:∀ i,(backTo pos (starEach es (X i).env)).any (·.1)=false:=by intro i;rfl) :
 E3 K X O (.Call (.Name x p) (a::es) [] pos) (zbm F ga):=let ⟨_,q,d⟩:=ha; ⟨_,fun i=>zcs (hc i) (hg i) (by rw [C.hmg];exact hm) hv (q i) hn hdb (he i) (hpl i),fun j=>zmh (hd j) (d j)⟩
end
end L3
namespace L3
open PySem PySem.Spec
open PyProof.Rows hiding St
open L2
theorem zmb:bootBuiltins "len" = some (.builtin "len"):=by decide +kernel
theorem z0t:bootBuiltins "all" = some (.builtin "all"):=by decide +kernel
theorem zf1:bootBuiltins "sorted" = some (.builtin "sorted"):=by decide +kernel
theorem z2n:bootBuiltins "min" = some (.builtin "min"):=by decide +kernel
theorem zx1:bootBuiltins "repr" = some (.builtin "repr"):=by decide +kernel
theorem z1z:bootBuiltins "int" = some (.type "int"):=by decide +kernel
theorem zjx:bootBuiltins "list" = some (.type "list"):=by decide +kernel
theorem zup:bootBuiltins "tuple" = some (.type "tuple"):=by decide +kernel
theorem zmw:bootBuiltins "range" = some (.type "range"):=by decide +kernel
structure Blt (mg:Str->Option Value):Prop where
 len:mg "len" = none
 all:mg "all" = none
 any:mg "any" = none
 sorted:mg "sorted" = none
 min:mg "min" = none
 max:mg "max" = none
 repr:mg "repr" = none
 int:mg "int" = none
 list:mg "list" = none
 tuple:mg "tuple" = none
 range:mg "range" = none
 set:mg "set" = none
 isinstance:mg "isinstance" = none
 enumerate:mg "enumerate" = none
 zip:mg "zip" = none
 reversed:mg "reversed" = none
 str:mg "str" = none
 sum:mg "sum" = none
 dict:mg "dict" = none
structure Def3 (P:Program) (w:World) (K:PySem.W.Frag) (mg:Str->Option Value) (base:Heap) (k:Nat) (x:Str) (ps:List Str) (sp:Sp):Prop where
 ex:∃ f fd,FnOk P w K mg base CX0 k f fd ps sp/\mg x=some (.ref f)/\PySem.W.keepIn K (.ref f)=true/\Binds K fd ps []
structure Top3 (K:PySem.W.Frag) (mg:Str->Option Value) (x:Str) (st:Stmt):Prop where
 ex:∃ f fd,Fun K x x st f fd/\mg x=some (.ref f)
structure CIx where
 C:Addr
 s:Shared
 H:Hp
 ex:List Addr
noncomputable def zlf {ι:Type} (X:ι->Cx) (scope:Scope) (N':List Str):ι × CIx->Cx:=fun p=>zdp (X p.1) scope N' p.2.C p.2.s p.2.H p.2.ex
noncomputable def zqn {κ:Type} (O:κ->Ob):{ p:κ × (Addr × List V) // ¬ (O p.1).M p.2.1 }->Ob:=fun p=>(O p.1.1).plus p.1.2.1 (.lst p.1.2.2)
noncomputable def F3 {ι κ:Type} (K:PySem.W.Frag) (X:ι->Cx) (O:κ->Ob) (ifs:List Expr) (f:DT):Prop:=∃ t,(∀ i,PF (X i) ifs t)/\∀ j,TD K (O j) t f
noncomputable def yesD:DT:=fun _ Q=>Q true
section
variable {ι κ : Type} {P : Program} {w : World} {K : PySem.W.Frag} {mg : Str → Option Value} {base : Heap} {k : Nat} {X : ι → Cx} {O : κ → Ob} {a b c tg : Expr} {fa fb fc : DE} {pos p : Pos} {es : List Expr} {ga : DA}
theorem Ctx3.comp (C:Ctx3 P w K mg base k X) (scope:Scope) (N':List Str):Ctx3 P w K mg base k (zlf X scope N'):=⟨fun i=>C.hP i.1,fun i=>C.hw i.1,fun i=>C.hK i.1,fun i=>C.hmg i.1,fun i=>C.hb i.1,fun i=>C.calm i.1,fun i=>C.room i.1,fun _=>rfl⟩
theorem zbk (C:Ctx3 P w K mg base k X) (B:Blt mg) (ha:A3 K X O [a] ga) (hg:∀ i,Gl (X i) "len" := by intro i;rfl) (he:∀ i,starEach [a] (X i).env=(false,eval a (X i).env)::starEach [] (X i).env:=by intro i;rfl):E3 K X O (.Call (.Name "len" p) [a] [] pos) (zbm (fn1 lenF) ga) :=
 zlq C (fun i=>by have h:=zhk (X:=X i);rw [C.hK] at h;exact h) (fun _=>z2w) zmb B.len ha hg (by decide) (by decide) he
theorem z3x (C:Ctx3 P w K mg base k X) (B:Blt mg) (ha:A3 K X O [a] ga) (hg:∀ i,Gl (X i) "all" := by intro i;rfl) (he:∀ i,starEach [a] (X i).env=(false,eval a (X i).env)::starEach [] (X i).env:=by intro i;rfl):E3 K X O (.Call (.Name "all" p) [a] [] pos) (zbm (allD false) ga) :=
 zlq C (fun i=>zrj (C.calm i)) (fun _=>z0g false) z0t B.all ha hg (by decide) (by decide) he
theorem zws (C:Ctx3 P w K mg base k X) (B:Blt mg) (ha:A3 K X O [a] ga) (hg:∀ i,Gl (X i) "min" := by intro i;rfl) (he:∀ i,starEach [a] (X i).env=(false,eval a (X i).env)::starEach [] (X i).env:=by intro i;rfl):E3 K X O (.Call (.Name "min" p) [a] [] pos) (zbm minD ga) :=
 zlq C (fun i=>zr3 (C.calm i)) (fun _=>z0e) z2n B.min ha hg (by decide) (by decide) he
theorem zso (C:Ctx3 P w K mg base k X) (B:Blt mg) (ha:A3 K X O [a] ga) (hg:∀ i,Gl (X i) "repr" := by intro i;rfl) (he:∀ i,starEach [a] (X i).env=(false,eval a (X i).env)::starEach [] (X i).env:=by intro i;rfl):E3 K X O (.Call (.Name "repr" p) [a] [] pos) (zbm (fn1 zg3) ga) :=
 zlq C (fun i=>by have h:=zqa (X:=X i) (C.room i).gd (C.room i).units;rw [C.hK] at h;exact h) (fun _=>zza) zx1 B.repr ha hg (by decide) (by decide) he
theorem znj (C:Ctx3 P w K mg base k X) (B:Blt mg) (ha:A3 K X O [a] ga) (hg:∀ i,Gl (X i) "int" := by intro i;rfl) (he:∀ i,starEach [a] (X i).env=(false,eval a (X i).env)::starEach [] (X i).env:=by intro i;rfl):E3 K X O (.Call (.Name "int" p) [a] [] pos) (zbm (fn1 zq9) ga) :=
 zw5 C (fun i=>ztq) (fun _=>z2j) z1z B.int ha hg (by decide) (by decide) he
theorem zde (C:Ctx3 P w K mg base k X) (B:Blt mg) (ha:A3 K X O [a] ga) (hg:∀ i,Gl (X i) "tuple" := by intro i;rfl) (he:∀ i,starEach [a] (X i).env=(false,eval a (X i).env)::starEach [] (X i).env:=by intro i;rfl):E3 K X O (.Call (.Name "tuple" p) [a] [] pos) (zbm (fn1 tupF) ga) :=
 zw5 C (fun i=>by have h:=zla (X:=X i);rw [C.hK] at h;exact h) (fun _=>zui) zup B.tuple ha hg (by decide) (by decide) he
theorem z3m {p2 pos2:Pos} (C:Ctx3 P w K mg base k X) (B:Blt mg) (ha:A3 K X O [a] ga) (hg:∀ i,Gl (X i) "list" := by intro i;rfl) (hg2:∀ i,Gl (X i) "range" := by intro i;rfl)
 (hs:∀ i,starEach [a] (X i).env = [(false,eval a (X i).env)]:=by intro i;rfl) (hs2:∀ i,starEach [.Call (.Name "range" p2) [a] [] pos2] (X i).env = [(false,eval (.Call (.Name "range" p2) [a] [] pos2) (X i).env)]:=by intro i;rfl) :
 E3 K X O (.Call (.Name "list" p) [.Call (.Name "range" p2) [a] [] pos2] [] pos) (lrD1 ga):=let ⟨_,q,d⟩:=ha;
 ⟨_,fun i=>zcs (zi7 (C.calm i)) (hg i) (by rw [C.hmg];exact B.list) zjx (zas (zcs ztx (hg2 i) (by rw [C.hmg];exact B.range) zmw (q i) (by decide) (by decide) (hs i)) za6 (hs2 i)) (by decide) (by decide) (hs2 i),fun j=>z3e (d j)⟩
theorem z4f {p2 pos2:Pos} (C:Ctx3 P w K mg base k X) (B:Blt mg) (ha:A3 K X O [a,b] ga) (hg:∀ i,Gl (X i) "list" := by intro i;rfl) (hg2:∀ i,Gl (X i) "range" := by intro i;rfl)
 (hs:∀ i,starEach [a,b] (X i).env=(false,eval a (X i).env)::starEach [b] (X i).env:=by intro i;rfl) (hpl:∀ i,(backTo pos2 (starEach [b] (X i).env)).any (·.1)=false:=by intro i;rfl) (hs2:∀ i,starEach [.Call (.Name "range" p2) [a,b] [] pos2] (X i).env = [(false,eval (.Call (.Name "range" p2) [a,b] [] pos2) (X i).env)]:=by intro i;rfl) :
 E3 K X O (.Call (.Name "list" p) [.Call (.Name "range" p2) [a,b] [] pos2] [] pos) (lrD2 ga):=let ⟨_,q,d⟩:=ha;
 ⟨_,fun i=>zcs (zi7 (C.calm i)) (hg i) (by rw [C.hmg];exact B.list) zjx (zas (zcs zsa (hg2 i) (by rw [C.hmg];exact B.range) zmw (q i) (by decide) (by decide) (hs i) (hpl i)) za6 (hs2 i)) (by decide) (by decide) (hs2 i),fun j=>z0m (d j)⟩
theorem zmv {X:Cx}:MtR X "str.join" zij:=fun pins s σ H x xs v us Q I rx rv h=>zxs pins s σ H x xs v us Q I rx rv h
theorem znc {apos:Pos} (C:Ctx3 P w K mg base k X) (ho:E3 K X O a fa) (hb:E3 K X O b fb) (hbase:∀ i,attributeBase a "join" (X i).env (eval a (X i).env)=eval a (X i).env:=by intro i;rfl)
 (hfew:∀ i,((backTo pos (starEach [b] (X i).env)).all (fun x=>!x.1) && (backToKw pos (keywordEach [] (X i).env)).all (fun x=>x.1.isSome) && decide (([b]:List Expr).length+([]:List Keyword).length+(if ([]:List Keyword).isEmpty then 0 else 1)<30))=true:=by intro i;rfl)
 (hline:(apos.endLine == pos.line)=true:=by rfl) (hs:∀ i,starEach [b] (X i).env = [(false,eval b (X i).env)]:=by intro i;rfl):E3 K X O (.Call (.Attribute a "join" apos) [b] [] pos) (zwj fa fb) :=
 let ⟨_,p1,d1⟩:=ho;let ⟨_,p2,d2⟩:=hb; ⟨tBM K "str" zij _ (zav _ tNil),fun i=>by
  have h:=ze9 (apos:=apos) (cpos:=pos) PySem.F.plainAttrs_str PySem.F.slot_str_join PySem.F.type_str_join (zmv (X:=X i)) (p1 i) (zas (p2 i) za6 (hs i)) (hbase i) (hfew i) hline (hs i)
  rw [C.hK] at h
  exact h,fun j=>zzq (d1 j) (d2 j)⟩
theorem zap {k' n:Nat} {x:Str} {ps:List Str} {φ:Ob->Prop} {F:List PyData->(R->Prop)->Prop} (C:Ctx3 P w K mg base k X) (D:Def3 P w K mg base k' x ps (spO K φ n F)) (hφ:∀ j,φ (O j)) (ha:A3 K X O (a::es) ga) (hk:k'<=k:=by decide) (hg:∀ i,Gl (X i) x:=by intro i;rfl)
 (hdb:(x == ("__debug__" : Str))=false:=by decide) (he:∀ i,starEach (a::es) (X i).env=(false,eval a (X i).env)::starEach es (X i).env:=by intro i;rfl) (hpl:∀ i,(backTo pos (starEach es (X i).env)).any (·.1)=false:=by intro i;rfl):E3 K X O (.Call (.Name x p) (a::es) [] pos) (calD n F ga):=by
 obtain ⟨f,fd,G,m,kp,bn⟩:=D.ex
 obtain ⟨t,q,d⟩:=ha
 refine ⟨zeo (spO K φ n F) [] E0 t,fun i=>?_,fun j=>zxw (hφ j) (d j)⟩
 have G':FnOk (X i).prog (X i).w (X i).K (X i).mg (X i).base CX0 k f fd ps (spO K φ n F):=by rw [C.hP,C.hw,C.hK,C.hmg,C.hb];exact G.mono hk
 exact zgx G' (C.room i) (hg i) (by rw [C.hmg];exact m) (by rw [C.hK];exact kp) (by rw [C.hK];exact bn) .nil zli (q i) hdb (he i) (hpl i)
theorem zat {k' n:Nat} (v:Nat) {x y:Str} {py:Pos} {ps:List Str} {φ:Ob->Prop} {F:List PyData->(R->Prop)->Prop} (C:Ctx3 P w K mg base k X) (D:Def3 P w K mg base k' x ps (spD K φ n F)) (hφ:∀ j,φ (O j)) (ha:A3 K X O es ga) (hk:k'<=k:=by decide) (hg:∀ i,Gl (X i) x:=by intro i;rfl)
 (hN:∀ i,(X i).N[v]? = some y:=by intro i;rfl) (hv:∀ i,Vis (X i).env.scope y:=by intro i;first | exact Or.inl rfl | exact Or.inr (Or.inl rfl) | exact Or.inr (Or.inr rfl)) (hd:(y == ("__debug__" : Str))=false:=by decide) (hcd:(y == ("__classdict__" : Str))=false:=by decide)
 (hdb:(x == ("__debug__" : Str))=false:=by decide) (he:∀ i,starEach (.Name y py::es) (X i).env=(false,eval (.Name y py) (X i).env)::starEach es (X i).env:=by intro i;rfl) (hpl:∀ i,(backTo pos (starEach es (X i).env)).any (·.1)=false:=by intro i;rfl) :
 E3 K X O (.Call (.Name x p) (.Name y py::es) [] pos) (calO v n F ga):=by
 obtain ⟨f,fd,G,m,kp,bn⟩:=D.ex
 obtain ⟨t,q,d⟩:=ha
 refine ⟨zeo (spD K φ n F) [] E0 (zav (tVar v) t),fun i=>?_,fun j=>zuo (hφ j) (d j)⟩
 have G':FnOk (X i).prog (X i).w (X i).K (X i).mg (X i).base CX0 k f fd ps (spD K φ n F):=by rw [C.hP,C.hw,C.hK,C.hmg,C.hb];exact G.mono hk
 exact zgx G' (C.room i) (hg i) (by rw [C.hmg];exact m) (by rw [C.hK];exact kp) (by rw [C.hK];exact bn) .nil zli (zas (zak (hN i) (hv i) hd hcd) (q i) (he i)) hdb (he i) (hpl i)
theorem zsp (C:Ctx3 P w K mg base k X) (ha:E3 K X O a fa):I3 K X O tg a (srcL fa):=let ⟨_,p,d⟩:=ha; ⟨zei K _,fun i=>by have h:=zg6 (tg:=tg) (p i);rw [C.hK] at h;exact h,fun j=>zwd (d j)⟩
theorem zcw (C:Ctx3 P w K mg base k X) (ha:E3 K X O a fa):I3 K X O tg a (srcT fa):=let ⟨_,p,d⟩:=ha; ⟨iTup K _,fun i=>by have h:=z2h (tg:=tg) (p i);rw [C.hK] at h;exact h,fun j=>zyd (d j)⟩
theorem zle (ha:E3 K X O a fa):I3 K X O tg a (srcS fa):=let ⟨_,p,d⟩:=ha; ⟨_,fun i=>zz4 (p i),fun j=>zzf (d j)⟩
theorem i_r1 (C:Ctx3 P w K mg base k X) (B:Blt mg) (ha:A3 K X O [a] ga) (hg:∀ i,Gl (X i) "range" := by intro i;rfl) (hs:∀ i,starEach [a] (X i).env = [(false,eval a (X i).env)]:=by intro i;rfl):I3 K X O tg (.Call (.Name "range" p) [a] [] pos) (zw9 ga) :=
 let ⟨_,q,d⟩:=ha; ⟨_,fun i=>zkr (hg i) (by rw [C.hmg];exact B.range) (q i) (hs i),fun j=>zvh (d j)⟩
theorem i_r2 (C:Ctx3 P w K mg base k X) (B:Blt mg) (ha:A3 K X O [a,b] ga) (hg:∀ i,Gl (X i) "range" := by intro i;rfl) (hs:∀ i,starEach [a,b] (X i).env = [(false,eval a (X i).env),(false,eval b (X i).env)]:=by intro i;rfl) (hs2:∀ i,starEach [b] (X i).env = [(false,eval b (X i).env)]:=by intro i;rfl) :
 I3 K X O tg (.Call (.Name "range" p) [a,b] [] pos) (zwr ga):=let ⟨_,q,d⟩:=ha; ⟨_,fun i=>zs9 (hg i) (by rw [C.hmg];exact B.range) (q i) (hs i) (hs2 i),fun j=>zvo (d j)⟩
theorem zcj {fi:DI} (h:I3 K X O tg a fi):J3 K X O tg a (newJ fi):=let ⟨_,p,d⟩:=h; ⟨_,p,fun j=>zzk (d j)⟩
theorem zie (C:Ctx3 P w K mg base k X) (n:Nat) {x:Str} (hN:∀ i,(X i).N[n]? = some x:=by intro i;rfl) (hv:∀ i,Vis (X i).env.scope x:=by intro i;first | exact Or.inl rfl | exact Or.inr (Or.inl rfl) | exact Or.inr (Or.inr rfl)) (hd:(x == ("__debug__" : Str))=false:=by decide) (hcd:(x == ("__classdict__" : Str))=false:=by decide) :
 J3 K X O tg (.Name x pos) (varJ n):=⟨zei K (tVar n),fun i=>by have h:=zg6 (tg:=tg) (X:=X i) (zak (pos:=pos) (hN i) (hv i) hd hcd);rw [C.hK] at h;exact h,fun j=>znz⟩
theorem za3 {h:Nat} (n:Nat) {x:Str} (hlt:n<h:=by decide) (hN:∀ i,(X i).N.Nodup:=by intro i;exact of_decide_eq_true (by kernel_rfl)) (hi:∀ i,(X i).N[n]? = some x:=by intro i;rfl) (hx:∀ i,Loc (X i).env.scope x:=by intro i;first | exact Or.inl rfl | exact Or.inr rfl)
 (hf:∀ i,(X i).fn x=true\/(X i).env.scope.names.lookup x=some .local:=by intro i;first | exact .inl rfl | exact .inr rfl):G3 K X h (.Name x pos) (gN n):=⟨_,fun i=>zg5 (hN i) (hi i) (hx i) (hf i),fun _=>zy2,fun _=>zzs,zhq hlt⟩
noncomputable def Gs3 {ι:Type} (K:PySem.W.Frag) (X:ι->Cx) (h:Nat) (es:List Expr) (is:List Nat):Prop:=∃ t,(∀ i,PGs (X i) es t)/\(∀ O:Ob,GSs K O t is)/\(∀ O:Ob,GRs K O t is)/\zi1 h t/\zir t
theorem zfv {h:Nat}:Gs3 K X h [] []:=⟨_,fun i=>zx8,fun _=>zyq,fun _=>zy1,zx2,zy3⟩
theorem zby {h:Nat} {es:List Expr} {is:List Nat} (n:Nat) {x:Str} (hr:Gs3 K X h es is) (hlt:n<h:=by decide) (hN:∀ i,(X i).N.Nodup:=by intro i;exact of_decide_eq_true (by kernel_rfl)) (hi:∀ i,(X i).N[n]? = some x:=by intro i;rfl) (hx:∀ i,Loc (X i).env.scope x:=by intro i;first | exact Or.inl rfl | exact Or.inr rfl)
 (hf:∀ i,(X i).fn x=true\/(X i).env.scope.names.lookup x=some .local:=by intro i;first | exact .inl rfl | exact .inr rfl) (hs:∀ i,(assignEach (.Name x pos::es) (X i).env).map (·.2)=assign (.Name x pos) (X i).env::(assignEach es (X i).env).map (·.2):=by intro i;rfl):Gs3 K X h (.Name x pos::es) (n::is) :=
 let ⟨_,p,d1,d2,o,m⟩:=hr; ⟨_,fun i=>zvi (zg5 (hN i) (hi i) (hx i) (hf i)) (p i) (hs i),fun O=>zuf (d1 O),fun O=>zut (d2 O),zvk znq m (zhq hlt) o,zu2 znq m⟩
theorem zit {h n:Nat} {es:List Expr} {is:List Nat} {j:Nat} (C:Ctx3 P w K mg base k X) (hr:Gs3 K X h es is) (hn:is.length=n:=by rfl) (hn2:∀ i,(assignEach es (X i).env).length=n:=by intro i;rfl) (hst:∀ i,(assignEach es (X i).env).findIdx? (·.1)=none:=by intro i;rfl):G3 K X h (.Tuple es j pos) (gT is) :=
 let ⟨_,p,d1,d2,o,m⟩:=hr; ⟨_,fun i=>by have z:=zz6 (pos:=pos) (k:=j) (C.calm i) (p i) (hn2 i) (hst i);rw [C.hK] at z;exact z,fun O=>z1r hn (d1 O),fun O=>z3b hn (d2 O),zyk o⟩
theorem zq6 {n:Int} {j:Nat} {p2:Pos}:E3 K X O (.UnaryOp .USub (.Constant (.int n) j p2) pos) (cD (.int (-n))):=⟨tUn (rU fun i => .int (-i)) (tC (.int n)),fun i=>z3o z0a zal,fun _ σ H ρ Q Qd S h kk=>⟨n,rfl,kk _ H (.o _) (.refl _ _) (Is.int _) h⟩⟩
theorem zfa {O':κ->Ob}:F3 K X O' [] yesD:=⟨_,fun i=>zte,fun j σ H ρ Q Qd S h k=>k true H (.refl _ _) h⟩
theorem zw3 {ft:DT} (h:T3 K X O c ft):F3 K X O [c] ft:=let ⟨_,p,d⟩:=h; ⟨_,fun i=>z2x (p i),d⟩
theorem zcx {elt iter:Expr} {ifs:List Expr} {scope:Scope} {fi:DI} {g:DG} {ft:DT} {fe:DE} (h:Nat) (N':List Str) (C:Ctx3 P w K mg base k X) (S:∀ i,ScopeOk h N' (X i).N scope (X i).env.scope) (hs:I3 K X O tg iter fi)
 (hg:G3 K (zlf X scope N') h tg g) (hf:F3 K (zlf X scope N') (zqn O) ifs ft) (he:E3 K (zlf X scope N') (zqn O) elt fe) (hset:∀ i x,foldedSetIterable iter (X i).env x=pure x:=by intro _ _;rfl) :
 E3 K X O (.ListComp elt [⟨tg,iter,ifs,0⟩] scope pos) (zw1 h fi g ft fe):=by
 obtain ⟨ti,p1,d1⟩:=hs
 obtain ⟨tg',p2,d2,_,ow⟩:=hg
 obtain ⟨tf,p3,d3⟩:=hf
 obtain ⟨te,p4,d4⟩:=he
 exact ⟨_,fun i=>zok h (S i) (C.calm i) (p1 i) (fun c s H ex=>p2 (i,⟨c,s,H,ex⟩)) ow (fun c s H ex=>p3 (i,⟨c,s,H,ex⟩)) (fun c s H ex=>p4 (i,⟨c,s,H,ex⟩)) (hset i),fun j=>zzm (d1 j) d2 (fun D xs nm=>d3 ⟨(j,(D,xs)),nm⟩) fun D xs nm=>d4 ⟨(j,(D,xs)),nm⟩⟩
variable {st : Stmt} {sts : List Stmt} {g1 g2 : DS} {ft : DT}
theorem za1:Ss3 K X O [] (fun Dd ρ=>Dd.nx ρ):=⟨_,fun i=>zjt,fun j=>zzz⟩
theorem zah (h:S3 K X O st g1):Ss3 K X O [st] g1:=let ⟨_,p,d⟩:=h; ⟨_,fun i=>zct (p i),d⟩
theorem zae (h:S3 K X O st g1) (h':Ss3 K X O sts g2):Ss3 K X O (st::sts) (seqD g1 g2):=let ⟨_,p,d⟩:=h;let ⟨_,p2,d2⟩:=h'; ⟨_,fun i=>zba (p i) (p2 i),fun j=>z2l (d j) (d2 j)⟩
theorem zao (ha:E3 K X O a fa):S3 K X O (.Return (some a) pos) (retS fa):=let ⟨_,p,d⟩:=ha; ⟨_,fun i=>zf9 (p i),fun j=>z1u (d j)⟩
theorem s_if {sa sb:List Stmt} (hc:T3 K X O c ft) (h:Ss3 K X O sa g1) (h':Ss3 K X O sb g2):S3 K X O (.If c sa sb pos) (ifS ft g1 g2):=let ⟨_,p,d⟩:=hc;let ⟨_,p1,d1⟩:=h;let ⟨_,p2,d2⟩:=h'; ⟨_,fun i=>zre (p i) (p1 i) (p2 i),fun j=>z4i (d j) (d1 j) (d2 j)⟩
theorem zan (n:Nat) {x:Str} {px:Pos} (ha:E3 K X O a fa) (hN:∀ i,(X i).N.Nodup:=by intro i;exact of_decide_eq_true (by kernel_rfl)) (hi:∀ i,(X i).N[n]? = some x:=by intro i;rfl) (hx:∀ i,Loc (X i).env.scope x:=by intro i;first | exact Or.inl rfl | exact Or.inr rfl)
 (hs:∀ i,swapsWith a (some (.Name x px)) pos.line (X i).env=pure false:=by intro i;rfl) (hf:∀ i,(X i).fn x=true\/(X i).env.scope.names.lookup x=some .local:=by intro i;first | exact .inl rfl | exact .inr rfl):S3 K X O (.Assign [.Name x px] a pos) (asgS n fa) :=
 let ⟨_,p,d⟩:=ha; ⟨_,fun i=>zb9 (hN i) (hi i) (hx i) (p i) (hs i) (hf i),fun j=>z2s (d j)⟩
theorem zjb {X:Cx}:MtR X "list.append" ze2:=fun pins s σ H x xs v us Q I rx rv h=>zkj pins s σ H x xs v us Q I rx rv h
theorem zem (n:Nat) {x:Str} {px apos cpos:Pos} (C:Ctx3 P w K mg base k X) (hb:E3 K X O b fb) (hN:∀ i,(X i).N[n]? = some x:=by intro i;rfl) (hv:∀ i,Vis (X i).env.scope x:=by intro i;first | exact Or.inl rfl | exact Or.inr (Or.inl rfl) | exact Or.inr (Or.inr rfl)) (hd:(x == ("__debug__" : Str))=false:=by decide) (hcd:(x == ("__classdict__" : Str))=false:=by decide)
 (hbase:∀ i,attributeBase (.Name x px) "append" (X i).env (eval (.Name x px) (X i).env)=eval (.Name x px) (X i).env:=by intro i;rfl)
 (hfew:∀ i,((backTo cpos (starEach [b] (X i).env)).all (fun x=>!x.1) && (backToKw cpos (keywordEach [] (X i).env)).all (fun x=>x.1.isSome) && decide (([b]:List Expr).length+([]:List Keyword).length+(if ([]:List Keyword).isEmpty then 0 else 1)<30))=true:=by intro i;rfl)
 (hline:(apos.endLine == cpos.line)=true:=by rfl) (hs:∀ i,starEach [b] (X i).env = [(false,eval b (X i).env)]:=by intro i;rfl) (hsw:∀ i,swapsWith (.Call (.Attribute (.Name x px) "append" apos) [b] [] cpos) none pos.line (X i).env=pure false:=by intro i;rfl) :
 S3 K X O (.Expr (.Call (.Attribute (.Name x px) "append" apos) [b] [] cpos) pos) (appS n fb):=let ⟨_,p2,d2⟩:=hb;
 ⟨zep (tBM K "list" ze2 (tVar n) (zav _ tNil)),fun i=>by
  have h:=ze9 (apos:=apos) (cpos:=cpos) PySem.F.plainAttrs_list PySem.F.slot_list_append PySem.F.type_list_append (zjb (X:=X i)) (zak (pos:=px) (hN i) (hv i) hd hcd) (zas (p2 i) za6 (hs i)) (hbase i) (hfew i) hline (hs i)
  rw [C.hK] at h
  exact zgu h (hsw i),fun j=>zr8 (d2 j)⟩
theorem zd7 {X:Cx} (h:X.xe=fun _ _=>False):PassesOwn (model X.prog X.w) X.A X.env X.xe:=by rw [h];exact PassesOwn.never
theorem zbt {iter:Expr} {body:List Stmt} {fj:DJ} {g:DG} {hh:Nat} (C:Ctx3 P w K mg base k X) (hi:J3 K X O tg iter fj) (hg:G3 K X hh tg g) (hb:Ss3 K X O body g1) (hs:∀ i x,foldedSetIterable iter (X i).env x=pure x:=by intro _ _;rfl):S3 K X O (.For tg iter body [] pos) (forS fj g g1):=by
 obtain ⟨ti,p1,d1⟩:=hi
 obtain ⟨tg',p2,_,d2,_⟩:=hg
 obtain ⟨tb,p3,d3⟩:=hb
 exact ⟨_,fun i=>zls (zd7 (C.xe i)) (C.calm i) (p1 i) (p2 i) (p3 i) (hs i),fun j=>zsg (d1 j) (d2 (O j)) (d3 j)⟩
theorem zvu (n:Nat) {x:Str} {px:Pos} {body:List Stmt} {g:DG} {hh:Nat} (C:Ctx3 P w K mg base k X) (hg:G3 K X hh tg g) (hb:Ss3 K X O body g1) (hN:∀ i,(X i).N[n]? = some x:=by intro i;rfl) (hv:∀ i,Vis (X i).env.scope x:=by intro i;first | exact Or.inl rfl | exact Or.inr (Or.inl rfl) | exact Or.inr (Or.inr rfl)) (hd:(x == ("__debug__" : Str))=false:=by decide) (hcd:(x == ("__classdict__" : Str))=false:=by decide)
 (hs:∀ i y,foldedSetIterable (.Name x px) (X i).env y=pure y:=by intro _ _;rfl):S3 K X O (.For tg (.Name x px) body [] pos) (zrp n g g1):=by
 obtain ⟨tg',p2,_,d2,_⟩:=hg
 obtain ⟨tb,p3,d3⟩:=hb
 refine ⟨tFor (zei K (tVar n)) tg' tb,fun i=>?_,fun j=>zsu (d2 (O j)) (d3 j)⟩
 have h:=zg6 (tg:=tg) (X:=X i) (zak (pos:=px) (hN i) (hv i) hd hcd)
 rw [C.hK] at h
 exact zls (zd7 (C.xe i)) (C.calm i) h (p2 i) (p3 i) (hs i)
theorem zj6 {body:List Stmt} (C:Ctx3 P w K mg base k X) (hc:T3 K X O c ft) (hb:Ss3 K X O body g1):S3 K X O (.While c body [] pos) (zth ft g1):=let ⟨_,p,d⟩:=hc;let ⟨_,p2,d2⟩:=hb; ⟨_,fun i=>zm9 (zd7 (C.xe i)) (p i) (p2 i),fun j=>zue (d j) (d2 j)⟩
end
theorem len1 {fd:FuncData} {p0:Str} {us:List Value} (hl:us.length=1) (h:∀ u0,bindArgs fd ⟨[u0],[]⟩=pure ([p0].zip [u0])):bindArgs fd ⟨us,[]⟩=pure ([p0].zip us):=by
 match us,hl with
 | [u0],_=>exact h u0
theorem len2 {fd:FuncData} {p0 p1:Str} {us:List Value} (hl:us.length=2) (h:∀ u0 u1,bindArgs fd ⟨[u0,u1],[]⟩=pure ([p0,p1].zip [u0,u1])):bindArgs fd ⟨us,[]⟩=pure ([p0,p1].zip us):=by
 match us,hl with
 | [u0,u1],_=>exact h u0 u1
theorem len3 {fd:FuncData} {p0 p1 p2:Str} {us:List Value} (hl:us.length=3) (h:∀ u0 u1 u2,bindArgs fd ⟨[u0,u1,u2],[]⟩=pure ([p0,p1,p2].zip [u0,u1,u2])):bindArgs fd ⟨us,[]⟩=pure ([p0,p1,p2].zip us):=by
 match us,hl with
 | [u0,u1,u2],_=>exact h u0 u1 u2
theorem len4 {fd:FuncData} {p0 p1 p2 p3:Str} {us:List Value} (hl:us.length=4) (h:∀ u0 u1 u2 u3,bindArgs fd ⟨[u0,u1,u2,u3],[]⟩=pure ([p0,p1,p2,p3].zip [u0,u1,u2,u3])):bindArgs fd ⟨us,[]⟩=pure ([p0,p1,p2,p3].zip us):=by
 match us,hl with
 | [u0,u1,u2,u3],_=>exact h u0 u1 u2 u3
section
variable {P : Program} {w : World} {K : PySem.W.Frag} {mg : Str → Option Value} {base : Heap} {k n : Nat} {x : Str} {st : Stmt} {N ps : List Str} {φ : Ob → Prop} {F : List PyData → (R → Prop) → Prop}
noncomputable abbrev zdz (P:Program) (w:World) (K:PySem.W.Frag) (mg:Str->Option Value) (base:Heap) (N:List Str) (x:Str) (sc:Scope) (f:Addr) (cdv:Value) (A:Around) (outer:List Env) (s:Shared) (H:Hp) (E:XK):Unit->Cx:=fun _=>(cxOf CX0 P w K mg base N x sc f cdv A outer s H E).nox
theorem zh4 {f:Addr} {cdv:Value} {A:Around} {outer:List Env} {s:Shared} {H:Hp} {E:XK} {sc:Scope} (hr:Room k (A.deeper (envOfC x sc s.heap.objs.size f cdv))):Ctx3 P w K mg base k (zdz P w K mg base N x sc f cdv A outer s H E) :=
 ⟨fun _=>rfl,fun _=>rfl,fun _=>rfl,fun _=>rfl,fun _=>rfl,fun _=>rfl,fun _=>hr,fun _=>rfl⟩
theorem mk_O (T:Top3 K mg x st) (S:FnScope N ps (zag st)) (hb:∀ (kV doc pm:Value) (an:Option Addr) (cdv ct:Value) (us:List Value),us.length=ps.length->bindArgs (PySem.W.fnOf x x (zcd st) (zbg st) (zag st) .none kV doc pm an cdv ct) ⟨us,[]⟩=pure (ps.zip us)) (hn:ps.length=n)
 (body:∀ (f:Addr) (cdv:Value) (A:Around) (outer:List Env) (s:Shared) (H:Hp) (E:XK) (O:Ob),φ O->Ctx3 P w K mg base k (zdz P w K mg base N x (zag st) f cdv A outer s H E) ->
  ∃ g,Ss3 K (zdz P w K mg base N x (zag st) f cdv A outer s H E) (fun _:Unit=>O) (zbg st) g/\∀ ds Qr,ds.length=n->F ds Qr->g { nx:=fun _=>Qr (.o .none),rt:=Qr } (zec N (ds.map .im))):Def3 P w K mg base (k+1) x ps (spO K φ n F):=by
 obtain ⟨f,fd,Fu,m⟩:=T.ex
 refine ⟨f,fd,Fu.ok S (zzx hn) (fun cdv A outer s H vs Q E hr h=>?_),m,Fu.kp,Fu.binds hb⟩
 obtain ⟨O,ds,Qr,ok,hφ,p,hl,is,q,kk⟩:=h
 obtain ⟨g,⟨t,h1,h2⟩,h3⟩:=body f cdv A outer s H E O hφ (zh4 hr)
 exact ⟨t,h1 (),z3p (h2 ()) ok p is (h3 ds Qr hl q) kk⟩
theorem mk_D (T:Top3 K mg x st) (S:FnScope N ps (zag st)) (hb:∀ (kV doc pm:Value) (an:Option Addr) (cdv ct:Value) (us:List Value),us.length=ps.length->bindArgs (PySem.W.fnOf x x (zcd st) (zbg st) (zag st) .none kV doc pm an cdv ct) ⟨us,[]⟩=pure (ps.zip us)) (hn:ps.length=n+1)
 (body:∀ (f:Addr) (cdv:Value) (A:Around) (outer:List Env) (s:Shared) (H:Hp) (E:XK) (O:Ob),φ O->Ctx3 P w K mg base k (zdz P w K mg base N x (zag st) f cdv A outer s H E) ->
  ∃ g,Ss3 K (zdz P w K mg base N x (zag st) f cdv A outer s H E) (fun _:Unit=>O) (zbg st) g/\∀ ds Qr,ds.length=n->F ds Qr->g { nx:=fun _=>Qr (.o .none),rt:=Qr } (zec N (.ob::ds.map .im))):Def3 P w K mg base (k+1) x ps (spD K φ n F):=by
 obtain ⟨f,fd,Fu,m⟩:=T.ex
 refine ⟨f,fd,Fu.ok S (zje hn) (fun cdv A outer s H vs Q E hr h=>?_),m,Fu.kp,Fu.binds hb⟩
 obtain ⟨O,ds,ws,Qr,ok,hφ,p,hl,rfl,is,q,kk⟩:=h
 obtain ⟨g,⟨t,h1,h2⟩,h3⟩:=body f cdv A outer s H E O hφ (zh4 hr)
 exact ⟨t,h1 (),z3s (h2 ()) ok p is (h3 ds Qr hl q) kk⟩
end
end L3
namespace L3
open PySem PySem.Spec
open PyProof.Rows hiding St
open L2
noncomputable def potA (seed num:Int) (l:Addr):HO := .lst [.int seed,.int num,.ref l]
structure PotAt (H:Hp) (a l:Addr) (seed num:Int) (ns:List Int):Prop where
 ne:a ≠ l
 ha:H a=some (potA seed num l)
 hl:H l=some (.lst (ns.map V.int))
 s0:0<=seed
 s1:seed<4294967296
 n0:0<=num
 ns0:∀ n ∈ ns,0<=n
structure IsPot (O:Ob):Prop where
 ex:∃ a l,O.v = .ref a/\O.M a/\O.M l/\(∀ H,O.P H->∃ s n ns,PotAt H a l s n ns)/\∀ H H' s n ns,O.P H->PotAt H' a l s n ns->(∀ b,O.M b->b ≠ a->b ≠ l->H' b=H b)->O.P H'
theorem IsPot.plus {O:Ob} (h:IsPot O) (D:Addr) (u:HO) (nm:¬ O.M D):IsPot (O.plus D u):=by
 obtain ⟨a,l,hv,ma,ml,h1,h2⟩:=h.ex
 have da:D ≠ a:=fun e=>nm (e ▸ ma)
 have dl:D ≠ l:=fun e=>nm (e ▸ ml)
 refine ⟨a,l,hv,.inl ma,.inl ml,fun H p=>h1 H p.1,fun H H' s n ns p q k=>⟨h2 H H' s n ns p.1 q fun b mb=>k b (.inl mb),?_⟩⟩
 rw [k D (.inr rfl) da dl]
 exact p.2
theorem upO {κ:Type} {O:κ->Ob} (h:∀ j,IsPot (O j)):∀ j,IsPot (zqn O j):=fun j=>(h j.1.1).plus _ _ j.2
noncomputable def zlg (a l:Addr):Ob:=⟨fun b=>b=a\/b=l,fun H=>∃ s n ns,PotAt H a l s n ns,.ref a⟩
theorem zwa (a l:Addr):(zlg a l).Ok:=by
 refine ⟨fun H H' e ⟨s,n,ns,p⟩=>⟨s,n,ns,p.ne,(e a (.inl rfl)).trans p.ha,(e l (.inr rfl)).trans p.hl,p.s0,p.s1,p.n0,p.ns0⟩,fun H b o ⟨s,n,ns,p⟩ eb m=>?_,fun H b ⟨s,n,ns,p⟩ m=>?_⟩
 ·rcases m with rfl | rfl
  ·rw [p.ha] at eb;cases eb;exact ⟨fun _ z=>(by cases z),fun _ _ z=>(by cases z)⟩
  ·rw [p.hl] at eb;cases eb;exact ⟨fun _ z=>(by cases z),fun _ _ z=>(by cases z)⟩
 ·rcases m with rfl | rfl
  ·exact ⟨_,p.ha⟩
  ·exact ⟨_,p.hl⟩
theorem zv0 (a l:Addr):IsPot (zlg a l):=⟨a,l,rfl,.inl rfl,.inr rfl,fun _ p=>p,fun _ _ s n ns _ q _=>⟨s,n,ns,q⟩⟩
structure PotStp (a l:Addr) (H H':Hp):Prop where
 oth:∀ b,b ≠ a->b ≠ l->H' b=H b
theorem PotStp.refl (a l:Addr) (H:Hp):PotStp a l H H:=⟨fun _ _ _=>rfl⟩
theorem PotStp.trans {a l:Addr} {H H1 H2:Hp} (x:PotStp a l H H1) (y:PotStp a l H1 H2):PotStp a l H H2:=⟨fun b h1 h2=>(y.oth b h1 h2).trans (x.oth b h1 h2)⟩
theorem PotStp.upA {a l:Addr} {H:Hp} (o:HO):PotStp a l H (upd H a o):=⟨fun b h1 _=>zad h1⟩
theorem PotStp.upL {a l:Addr} {H:Hp} (o:HO):PotStp a l H (upd H l o):=⟨fun b _ h2=>zad h2⟩
noncomputable abbrev lenR (K:PySem.W.Frag):List V->Hp->VK->Prop:=fun xs H Q=>∃ x n,xs = [x]/\LenV K x H n/\Q (.int n) H
noncomputable abbrev pAt (K:PySem.W.Frag) (i:Int):TE:=tOp (rIxL K) (tVar 0) (tC (.int i))
noncomputable def z0u (K:PySem.W.Frag):TS :=
 zl9 (tAnd (zgq (tOp rEq (pAt K 1) (tC (.int 0)))) (zgq (tOp (rI0 fun i j => .bl (decide (j<i))) (tCB (lenR K) (zav (pAt K 2) tNil)) (tC (.int 0)))))
  (tAsg (tBM K "list" zgi (pAt K 2) (zav (tC (.int 0)) tNil)) (gSub (tVar 0) (tC (.int 1)) zld))
noncomputable def zmc (K:PySem.W.Frag):TS :=
 tSeq (tIfS (zgq (tOp (rI0 fun i j => .bl (decide (j<i))) (pAt K 1) (tC (.int 0))))
  (tSeq (tAsg (tOp (rI (fun _ j=>0<j) fun i j => .int (i % j)) (pAt K 1) (tVar 1)) (za9 2))
   (tSeq (tAsg (tOp (rI CDiv fun i j => .int (i / j)) (pAt K 1) (tVar 1)) (gSub (tVar 0) (tC (.int 1)) zld)) (tRet (tVar 2)))) zlc)
 (tSeq (tAsg (tOp (rI (fun _ j=>0<j) fun i j => .int (i % j)) (tOp (rI0 fun i j => .int (i+j)) (tOp (rI CMul fun i j => .int (i * j)) (pAt K 0) (tC (.int 48271))) (tC (.int 7919))) (tC (.int 2147483647))) (za9 3))
 (tSeq (tAsg (tOp (rI0 fun i j => .int (i+j)) (tOp (rI (fun _ j=>0<j) fun i j => .int (i % j)) (tOp (rI0 fun i j => .int (i+j)) (tOp (rI CMul fun i j => .int (i * j)) (tVar 3) (tC (.int 40692))) (tC (.int 12345))) (tC (.int 2147483399))) (tC (.int 1))) (gSub (tVar 0) (tC (.int 0)) zld))
 (tRet (tOp (rI (fun _ j=>0<j) fun i j => .int (i % j)) (tOp (rI CDiv fun i j => .int (i / j)) (tOp (rI0 fun i j => .int (i+j)) (tOp (rI CMul fun i j => .int (i * j)) (tOp (rI (fun _ j=>0<j) fun i j => .int (i % j)) (tOp (rI CMul fun i j => .int (i * j)) (tVar 3) (tVar 3)) (tC (.int 2147483629))) (tC (.int 31))) (pAt K 0)) (tC (.int 64))) (tVar 1)))))
noncomputable def zq0 (K:PySem.W.Frag):TS:=tSeq (z0u K) (zmc K)
theorem zdm {K:PySem.W.Frag} {H:Hp} {a l:Addr} {s n:Int} {ns:List Int} {σ:St} {Q:VK} (p:PotAt H a l s n ns) (hσ:σ[0]? = some (some (.ref a))) {i:Int} {v:V} (hv:atI [V.int s,V.int n,V.ref l] i=some v) (q:Q v H):pAt K i σ H Q :=
 ⟨_,hσ,a,_,i,v,rfl,rfl,.of p.ha,hv,q⟩
theorem PotAt.setN {H:Hp} {a l:Addr} {s n:Int} {ns:List Int} (p:PotAt H a l s n ns) {n':Int} (h:0<=n'):PotAt (upd H a (.lst ([V.int s,V.int n,V.ref l].set 1 (.int n')))) a l s n' ns :=
 ⟨p.ne,zai,by rw [zad (Ne.symm p.ne)];exact p.hl,p.s0,p.s1,h,p.ns0⟩
theorem PotAt.setS {H:Hp} {a l:Addr} {s n:Int} {ns:List Int} (p:PotAt H a l s n ns) {s':Int} (h:0<=s') (h2:s'<4294967296):PotAt (upd H a (.lst ([V.int s,V.int n,V.ref l].set 0 (.int s')))) a l s' n ns :=
 ⟨p.ne,zai,by rw [zad (Ne.symm p.ne)];exact p.hl,h,h2,p.n0,p.ns0⟩
theorem zum {K:PySem.W.Frag} {H:Hp} {a l:Addr} {s n:Int} {ns:List Int} {m:Int} {D:Ends} (p:PotAt H a l s n ns) (m0:0<m) (m1:m<1073741824)
 (q:∀ k H' s' n' ns',0<=k->k<m->PotAt H' a l s' n' ns'->PotStp a l H H'->D.rt (.int k) H'):zmc K D [some (.ref a),some (.int m),none,none] H:=by
 refine zdm p rfl rfl ?_
 refine ⟨n,0,rfl,rfl,_,rfl,?_⟩
 refine ite2 (fun c=>?_) (fun c=>?_)
 ·refine zdm p rfl rfl ?_
  refine ⟨_,rfl,n,m,rfl,rfl,m0,?_⟩
  refine zdm p rfl rfl ?_
  refine ⟨_,rfl,n,m,rfl,rfl,⟨m0,m1⟩,?_⟩
  refine ⟨_,rfl,a,_,1,1,rfl,rfl,p.ha,rfl,?_⟩
  refine ⟨_,rfl,q _ _ s _ ns (Int.emod_nonneg _ (by lia)) (Int.emod_lt_of_pos _ m0) (p.setN (Int.ediv_nonneg p.n0 (by lia))) (.upA _)⟩
 ·refine zdm p rfl rfl ?_
  have s0:=p.s0
  have s1:=p.s1
  refine ⟨s,48271,rfl,rfl,.inl ⟨by lia,by lia⟩,?_⟩
  refine ⟨_,_,rfl,rfl,_,_,rfl,rfl,(show (0:Int)<2147483647 by decide),?_⟩
  dsimp only
  have e0:0<=(s * 48271+7919) % 2147483647:=Int.emod_nonneg _ (by decide)
  have e1:(s * 48271+7919) % 2147483647<2147483647:=Int.emod_lt_of_pos _ (by decide)
  generalize (s * 48271+7919) % 2147483647=one at e0 e1
  refine ⟨_,rfl,one,40692,rfl,rfl,.inl ⟨by lia,by lia⟩,?_⟩
  refine ⟨_,_,rfl,rfl,_,_,rfl,rfl,(show (0:Int)<2147483399 by decide),_,_,rfl,rfl,?_⟩
  dsimp only
  have f0:0<=(one * 40692+12345) % 2147483399:=Int.emod_nonneg _ (by decide)
  have f1:(one * 40692+12345) % 2147483399<2147483399:=Int.emod_lt_of_pos _ (by decide)
  generalize (one * 40692+12345) % 2147483399=sd at f0 f1
  refine ⟨_,rfl,a,_,0,0,rfl,rfl,p.ha,rfl,?_⟩
  have p2:=p.setS (s':=sd+1) (by lia) (by lia)
  refine ⟨_,rfl,_,rfl,one,one,rfl,rfl,.inl ⟨by lia,by lia⟩,?_⟩
  have g0:0<=one * one % 2147483629:=Int.emod_nonneg _ (by decide)
  have g1:one * one % 2147483629<2147483629:=Int.emod_lt_of_pos _ (by decide)
  refine ⟨_,_,rfl,rfl,(show (0:Int)<2147483629 by decide),_,_,rfl,rfl,.inl ⟨by lia,by lia⟩,?_⟩
  refine zdm p2 rfl rfl ?_
  refine ⟨_,_,rfl,rfl,_,_,rfl,rfl,⟨by decide,by decide⟩,_,rfl,_,_,rfl,rfl,m0,?_⟩
  exact q _ _ _ _ _ (Int.emod_nonneg _ (by lia)) (Int.emod_lt_of_pos _ m0) p2 (.upA _)
theorem zy4 {K:PySem.W.Frag} {H:Hp} {a l:Addr} {s n:Int} {ns:List Int} {m:Int} {D:Ends} (p:PotAt H a l s n ns) (m0:0<m) (m1:m<1073741824)
 (q:∀ k H' s' n' ns',0<=k->k<m->PotAt H' a l s' n' ns'->PotStp a l H H'->D.rt (.int k) H'):zq0 K D [some (.ref a),some (.int m),none,none] H:=by
 refine ⟨fun c σ H'=>σ = [some (.ref a),some (.int m),none,none]/\∃ s n ns,c=ns.length/\PotAt H' a l s n ns/\PotStp a l H H',⟨_,rfl,s,n,ns,rfl,p,.refl _ _ _⟩,?_⟩
 rintro c σ H1 ⟨rfl,s,n,ns,rfl,p,st⟩
 have out:zmc K D [some (.ref a),some (.int m),none,none] H1:=zum p m0 m1 fun k H' s' n' ns' h1 h2 h3 h4=>q k H' s' n' ns' h1 h2 h3 (st.trans h4)
 refine zdm p rfl rfl ?_
 refine ⟨rfl,_,rfl,?_⟩
 refine ite2 (fun c=>?_) (fun c=>iteF out)
 refine zdm p rfl rfl ?_
 refine ⟨_,_,rfl,.inl ⟨_,.of p.hl,rfl⟩,_,_,rfl,rfl,_,rfl,?_⟩
 refine ite2 (fun c2=>?_) (fun c2=>out)
 have c3:=of_decide_eq_true c2
 cases ns with
 | nil=>simp at c3
 | cons x r =>
   refine ⟨fun σ' H'=>σ' = [some (.ref a),some (.int m),none,none]/\∃ s n ns,ns.length<(x::r).length/\PotAt H' a l s n ns/\PotStp a l H H',fun σ' H' ⟨e,s,n,ns,hl,h1,h2⟩=>⟨_,hl,e,s,n,ns,rfl,h1,h2⟩,?_⟩
   refine zdm p rfl rfl ?_
   refine ⟨.inl ⟨rfl,_,.of p.hl⟩,l,_,0,0,.int x,rfl,rfl,p.hl,by decide,by decide,by simp [seqIndex?],rfl,?_⟩
   refine ⟨_,rfl,a,_,1,1,rfl,rfl,by rw [zad p.ne];exact p.ha,rfl,rfl,s,x,r,Nat.lt_succ_self _,?_,st.trans (PotStp.trans (.upL _) (.upA _))⟩
   have hx:0<=x:=p.ns0 x List.mem_cons_self
   have p1:PotAt (upd H1 l (.lst (((x::r).map V.int).eraseIdx 0))) a l s n r:=⟨p.ne,by rw [zad p.ne];exact p.ha,zai,p.s0,p.s1,p.n0,fun z hz=>p.ns0 z (List.mem_cons_of_mem _ hz)⟩
   exact p1.setN hx
noncomputable def zcy:List PyData->(R->Prop)->Prop:=fun ds Q=>∃ m:Int,ds = [.int m]/\0<m/\m<1073741824/\∀ k,0<=k->k<m->Q (.o (.int k))
theorem zy9 {O:Ob} {H H':Hp} {a l:Addr} {s n s' n':Int} {ns ns':List Int} (ma:O.M a) (ml:O.M l) (h2:∀ H H' s n ns,O.P H->PotAt H' a l s n ns->(∀ b,O.M b->b ≠ a->b ≠ l->H' b=H b)->O.P H') (p:PotAt H a l s n ns) (p':PotAt H' a l s' n' ns') (st:PotStp a l H H'):Stp O H H':=by
 refine ⟨fun b o e nm=>?_,fun pp=>h2 H H' _ _ _ pp p' fun b _ h3 h4=>st.oth b h3 h4,fun b u hu e=>?_⟩
 ·rw [st.oth b (fun z=>nm (z ▸ ma)) fun z=>nm (z ▸ ml)];exact e
 ·rw [st.oth b (fun z=>?_) fun z=>?_]
  ·exact e
  ·rw [z,p.ha] at e;cases e;obtain ⟨xs,e1 | ⟨o,e1⟩⟩:=hu <;> cases e1
  ·rw [z,p.hl] at e;cases e;obtain ⟨xs,e1 | ⟨o,e1⟩⟩:=hu <;> cases e1
theorem ztz {K:PySem.W.Frag} {O:Ob} {H:Hp} {ds:List PyData} {ws:List V} {Qr:R->Prop} {Q:VK} {x1 x2 x3 x4:Str} (hφ:IsPot O) (p:O.P H) (is:IsAll K (unM O) H ws ds) (q:zcy ds Qr) (kk:∀ r,Qr r->∀ v H',Stp O H H'->Out K O H H' v r->Q v H') :
 zq0 K { nx:=fun _ H'=>Q .non H',rt:=Q } (L2.start [x1,x2,x3,x4] (O.v::ws)) H:=by
 obtain ⟨m,rfl,m0,m1,q⟩:=q
 obtain ⟨a,l,hv,ma,ml,h1,h2⟩:=hφ.ex
 obtain ⟨s,n,ns,pa⟩:=h1 H p
 obtain ⟨v,rfl,iv⟩:=za4 is
 cases iv
 rw [hv]
 exact zy4 pa m0 m1 fun k H' s' n' ns' k0 k1 p' st=>kk _ (q k k0 k1) _ H' (zy9 ma ml h2 pa p' st) (Is.int k)
theorem zk0 {X:Cx}:MtR X "list.pop" zgi:=fun pins s σ H x xs v us Q I rx rv h=>zwe pins s σ H x xs v us Q I rx rv h
noncomputable def tPot (K:PySem.W.Frag):TS :=
 tSeq (tAsg (tOp (rI0 fun i j => .int (i+j)) (tOp (rI CMul fun i j => .int (i * j)) (tC (.int 7919)) (tVar 1)) (tC (.int 104729))) (za9 2))
 (tSeq (tAsg (tLst tNil) (za9 3))
 (tSeq (tFor (zei K (tSl (rSlL K) (tVar 0) (zlo (tVar 1)) (zlo (tC (.int 63))))) (za9 4)
  (tSeq (tAsg (tOp (rI (fun _ j=>0<j) fun i j => .int (i % j)) (tOp (rI0 fun i j => .int (i+j)) (tOp (rI0 fun i j => .int (i+j)) (tOp (rI CMul fun i j => .int (i * j)) (tVar 2) (tC (.int 48271))) (tOp (rI (fun _ j=>0<j) fun i j => .int (i % j)) (tVar 4) (tC (.int 2147483629)))) (tC (.int 1))) (tC (.int 2147483647))) (za9 2))
   (tIfS (zgq (tOp (rI0 fun i j => .bl (decide (j<=i))) (tVar 4) (tOp (rI CPow fun i j => .int (i ^ j.toNat)) (tC (.int 10)) (tC (.int 18))))) (zep (tBM K "list" ze2 (tVar 3) (zav (tVar 4) tNil))) zlc)))
 (tRet (tLst (zav (tVar 2) (zav (tC (.int 0)) (zav (tVar 3) tNil)))))))
noncomputable def zlh (K:PySem.W.Frag):Sp:=fun vs H Q _=>∃ (a:Addr) (ns:List Int),vs = [.ref a,.int 0]/\SqL K H a (ns.map V.int)/\ns.length<=63/\∀ p l s left H',H p=none->H l=none->Same H H'->PotAt H' p l s 0 left->Q (.ref p) H'
theorem zuq (ns:List Int) (lo hi:Option Int):cutV (ns.map V.int) lo hi=(cutL ns lo hi).map V.int:=by
 unfold cutV cutL
 rw [List.length_map,List.map_take,List.map_drop]
theorem zvx {K:PySem.W.Frag} {H:Hp} {Q:VK} {a:Addr} {ns:List Int} (hS:SqL K H a (ns.map V.int)) (hl:ns.length<=63)
 (q:∀ p l s left H',H p=none->H l=none->Same H H'->PotAt H' p l s 0 left->Q (.ref p) H'):tPot K { nx:=fun _ H'=>Q .non H',rt:=Q } [some (.ref a),some (.int 0),none,none,none] H:=by
 refine ⟨_,rfl,7919,0,rfl,rfl,.inl ⟨by decide,by decide⟩,_,_,rfl,rfl,?_⟩
 refine ⟨Nat.zero_le _,fun l hln=>?_⟩
 have g1:Same H (upd H l (.lst [])):=L3.same_new hln _
 refine ⟨_,rfl,_,rfl,_,rfl,63,rfl,a,_,rfl,g1.seq hS,fun c hc=>?_⟩
 have ncl:l ≠ c:=fun z=>by rw [<- z,zai] at hc;cases hc
 have hcH:H c=none:=g1.free hc
 rw [zuq]
 have hcl:(cutL ns (some 0) (some 63)).length<=63:=by
  unfold cutL
  rw [List.length_take,List.length_drop]
  lia
 generalize cutL ns (some 0) (some 63)=cs at hcl
 have sL:sizeLine=16777216:=sizeLine_eq
 refine ⟨c,rfl,⟨_,.of zai⟩,?_⟩
 refine zud (xs:=cs.map V.int) (fun i σ H'=>∃ (s:Int) (left:List Int) (o:Option V),σ = [some (.ref a),some (.int 0),some (.int s),some (.ref l),o]/\0<=s/\s<4294967296/\left.length<=i/\(∀ n ∈ left,0<=n)/\H' l=some (.lst (left.map V.int))/\H' c=some (.lst (cs.map V.int))/\Same H H') ?_ ?_ ?_ ?_
 ·refine ⟨_,[],none,rfl,by decide,by decide,Nat.le_refl _,by simp,?_,zai,g1.trans (L3.same_new hc _)⟩
  rw [zad ncl];exact zai
 ·rintro i σ H' hi ⟨s,left,o,rfl,h1,h2,h3,h4,h5,h6,h7⟩
  exact .of h6
 ·rintro i x σ H' hx ⟨s,left,o,rfl,h1,h2,h3,h4,h5,h6,h7⟩
  rw [List.getElem?_map] at hx
  obtain ⟨n,hn,rfl⟩:=Option.map_eq_some_iff.mp hx
  have hi:i<cs.length:=(List.getElem?_eq_some_iff.mp hn).1
  have e0:=Int.emod_nonneg n (show (2147483629:Int) ≠ 0 by decide)
  refine ⟨_,rfl,s,48271,rfl,rfl,.inl ⟨by lia,by lia⟩,_,rfl,n,2147483629,rfl,rfl,(show (0:Int)<2147483629 by decide),?_⟩
  refine ⟨_,_,rfl,rfl,_,_,rfl,rfl,_,_,rfl,rfl,(show (0:Int)<2147483647 by decide),?_⟩
  have f0:0<=(s * 48271+n % 2147483629+1) % 2147483647:=Int.emod_nonneg _ (by decide)
  have f1:(s * 48271+n % 2147483629+1) % 2147483647<2147483647:=Int.emod_lt_of_pos _ (by decide)
  refine ⟨_,rfl,10,18,rfl,rfl,⟨by decide,by decide,by decide⟩,_,_,rfl,rfl,_,rfl,?_⟩
  refine ite2 (fun cc=>?_) (fun cc=>?_)
  ·have c2:(10:Int) ^ (18:Int).toNat<=n:=of_decide_eq_true cc
   have c3:(0:Int)<=n:=Int.le_trans (by decide) c2
   refine ⟨_,rfl,.inl ⟨rfl,_,.of h5⟩,_,rfl,l,_,.int n,rfl,rfl,h5,by rw [List.length_map];lia,?_⟩
   refine ⟨_,left ++ [n],_,rfl,f0,by lia,by rw [List.length_append,List.length_singleton];lia,?_,?_,?_,?_⟩
   ·intro z hz
    rcases List.mem_append.mp hz with hz | hz
    ·exact h4 z hz
    ·rw [List.mem_singleton.mp hz];exact c3
   ·rw [zai,List.map_append];rfl
   ·rw [zad (Ne.symm ncl)];exact h6
   ·exact fun b u e=>by rw [zad (zb1 e hln)];exact h7 b u e
  ·exact ⟨_,left,_,rfl,f0,by lia,by lia,h4,h5,h6,h7⟩
 ·rintro σ H' ⟨s,left,o,rfl,h1,h2,h3,h4,h5,h6,h7⟩
  refine ⟨_,rfl,_,rfl,(by show 3<=sizeLine;decide),fun p hp=>?_⟩
  have npl:p ≠ l:=fun z=>by rw [z,h5] at hp;cases hp
  refine q p l s left _ (Same.free h7 hp) hln (h7.trans (L3.same_new hp _)) ⟨npl,zai,by rw [zad (Ne.symm npl)];exact h5,h1,h2,Int.le_refl 0,h4⟩
noncomputable def abc:List Nat:=(List.range 26).map (· + 97)
noncomputable def zbv (c:Nat):Prop:=97<=c/\c<123
noncomputable def zhr:List PyData->(R->Prop)->Prop:=fun ds Q=>∃ m:Int,ds = [.int m]/\0<=m/\m<=26/\∀ w:List Nat,(w.length:Int)=m->(∀ c ∈ w,zbv c)->w.Pairwise (· < ·)->Q (.o (.str (tx w)))
noncomputable def zmz (K:PySem.W.Frag) (drawSp:Sp):TS :=
 tSeq (tAsg (tCB zr7 (zav (tC (.str "abcdefghijklmnopqrstuvwxyz")) tNil)) (za9 2))
 (tRet (tBM K "str" zij (tC (.str "")) (zav (tCB zse (zav (zrf 1 (zpw (zav (tVar 1) tNil)) (za9 0) tYes (tBM K "list" zgi (tVar 3) (zav (zeo drawSp [] E0 (zav (tVar 1) (zav (tCB (lenR K) (zav (tVar 3) tNil)) tNil))) tNil))) tNil)) tNil)))
theorem zkz:∀ (l:List Nat) (acc:Array Nat),(l.map sg).foldl (fun acc p=>acc++(Str.ofString "").cps++p.cps) acc=acc++l.toArray
 | [],acc=>by simp
 | c::r,acc=>by
   rw [List.map_cons,List.foldl_cons,zkz r]
   have e:(Str.ofString "").cps = #[]:=by decide +kernel
   rw [e]
   apply Array.toList_inj.mp
   simp [sg]
theorem zos (w:List Nat):Txt.join "" (w.map sg)=tx w:=by
 cases w with
 | nil=>decide +kernel
 | cons c r =>
   show Builtin.Str.glued (Str.ofString "") (sg c::r.map sg)=tx (c::r)
   unfold Builtin.Str.glued
   show (⟨(r.map sg).foldl _ (sg c).cps⟩:Str)=_
   rw [zkz]
   unfold tx sg
   congr 1
   apply Array.toList_inj.mp
   simp
theorem z1e (c:Nat):(sg c).length=1:=rfl
theorem ztu (w:List Nat):((w.map sg).map (·.length)).sum=w.length:=by
 induction w with
 | nil=>rfl
 | cons c r ih=>rw [List.map_cons,List.map_cons,List.sum_cons,ih,z1e,List.length_cons];lia
theorem unsg:∀ {zs:List Str},(∀ z ∈ zs,∃ c,z=sg c/\zbv c)->∃ w:List Nat,zs=w.map sg/\∀ c ∈ w,zbv c
 | [],_=>⟨[],rfl,by simp⟩
 | z::zs,h=>by
   obtain ⟨c,rfl,hc⟩:=h z List.mem_cons_self
   obtain ⟨w,rfl,hw⟩:=unsg (zs:=zs) fun y hy=>h y (List.mem_cons_of_mem _ hy)
   exact ⟨c::w,rfl,fun d hd=>by rcases List.mem_cons.mp hd with e | e; (rw [e];exact hc);exact hw d e⟩
theorem zkb {α β:Type} (f:α->β):∀ (l:List α) (i:Nat),(l.map f).eraseIdx i=(l.eraseIdx i).map f
 | [],_=>rfl
 | _::_,0=>rfl
 | a::l,i+1=>by rw [List.map_cons,List.eraseIdx_cons_succ,List.eraseIdx_cons_succ,List.map_cons,zkb f l i]
theorem znb {α:Type} {l:List α} {i:Nat} {x:α} (h:x ∈ l.eraseIdx i):x ∈ l:=List.mem_of_mem_eraseIdx h
theorem zk5 {α:Type}:∀ {l:List α} {i:Nat} (h:i<l.length),([l[i]]++l.eraseIdx i).Perm l
 | a::l,0,_ => .refl _
 | a::l,i+1,h=>by
   have h':i<l.length:=by simpa using h
   have ih:=zk5 (l:=l) (i:=i) h'
   show (l[i]::a::l.eraseIdx i).Perm (a::l)
   exact (List.Perm.swap a l[i] _).trans (List.Perm.cons a ih)
theorem zr1 {a b:Nat} (h:sg a=sg b):a=b:=by
 have:=congrArg (fun x:Str=>x.cps.toList) h
 simpa [sg] using this
theorem zhe:∀ {w:List Nat} {x:Nat},risingS (sg x) (w.map sg)=true->(∀ c ∈ w,x<=c)/\w.Pairwise (·<=·)
 | [],_,_=>⟨fun _ h=>(nomatch h),.nil⟩
 | y::r,x,h=>by
   have h:(!(decide (y<x) || (y == x && false)) && risingS (sg y) (r.map sg))=true:=h
   rw [Bool.and_false,Bool.or_false,Bool.and_eq_true,Bool.not_eq_true',decide_eq_false_iff_not] at h
   obtain ⟨h1,h2⟩:=zhe (w:=r) (x:=y) h.2
   refine ⟨fun c hc=>?_,.cons h1 h2⟩
   rcases List.mem_cons.mp hc with rfl | hc
   ·lia
   ·have:=h1 c hc
    lia
theorem ziy:∀ {w:List Nat},sortedS (w.map sg)=true->w.Nodup->w.Pairwise (· < ·)
 | [],_,_ => .nil
 | x::r,h,hn=>by
   obtain ⟨h1,h2⟩:=zhe (w:=r) (x:=x) h
   obtain ⟨n1,n2⟩:=List.nodup_cons.mp hn
   refine .cons (fun c hc=>Nat.lt_of_le_of_ne (h1 c hc) fun e=>n1 (e ▸ hc)) ?_
   exact (List.Pairwise.and h2 n2).imp fun ⟨a,b⟩=>Nat.lt_of_le_of_ne a b
theorem zn2 {K:PySem.W.Frag} {O:Ob} {H:Hp} {ds:List PyData} {ws:List V} {Qr:R->Prop} {Q:VK} {x1 x2 x3:Str} (ok:O.Ok) (hφ:IsPot O) (p:O.P H) (is:IsAll K (unM O) H ws ds) (q:zhr ds Qr) (kk:∀ r,Qr r->∀ v H',Stp O H H'->Out K O H H' v r->Q v H') :
 zmz K (spD K IsPot 1 zcy) { nx:=fun _ H'=>Q .non H',rt:=Q } (L2.start [x1,x2,x3] (O.v::ws)) H:=by
 obtain ⟨m,rfl,m0,m1,q⟩:=q
 obtain ⟨v,rfl,iv⟩:=za4 is
 cases iv
 have hsz:sizeLine=16777216:=sizeLine_eq
 refine ⟨_,rfl,by decide,fun l hl=>?_⟩
 have eabc:(Str.ofString "abcdefghijklmnopqrstuvwxyz").cps.toList=abc:=by decide +kernel
 rw [eabc]
 have sl:Stp O H (upd H l (.lst (abc.map fun c=>V.str (sg c)))) := .new ok hl _
 have nMl:¬ O.M l:=fun mm=>by obtain ⟨o,z⟩:=ok.here H l p mm;rw [hl] at z;cases z
 have al:∀ b o,H b=some o->b ≠ l:=fun b o e z=>by rw [z,hl] at e;cases e
 refine ⟨rfl,?_⟩
 refine ⟨_,rfl,m,rfl,by lia,by lia,fun D hD=>?_⟩
 have nlD:l ≠ D:=fun z=>by rw [<- z,zai] at hD;cases hD
 have hDH:H D=none:=Same.free (L3.same_new hl _) hD
 have nMD:¬ O.M D:=fun mm=>by obtain ⟨o,z⟩:=ok.here H D p mm;rw [hDH] at z;cases z
 have aD:∀ b o,H b=some o->b ≠ D:=fun b o e z=>by rw [z,hDH] at e;cases e
 have pl:∀ {H':Hp} {b:Addr} {o:HO},¬ O.M b->O.P H'->O.P (upd H' b o):=fun {H' b o} nb pp=>ok.loc H' _ (fun c mc=>zad fun z=>nb (z ▸ mc)) pp
 refine ⟨fun i c ys H'=>c=m.toNat - i/\i<=m.toNat/\H' D=some (.lst ys)/\(∃ w r:List Nat,ys=w.map (fun c=>V.str (sg c))/\w.length=i/\(∀ c ∈ w,zbv c)/\H' l=some (.lst (r.map fun c=>V.str (sg c)))/\r.length+i=26/\(∀ c ∈ r,zbv c)/\(w++r).Nodup) /\
  O.P H'/\(∀ b o,H b=some o->¬ O.M b->H' b=some o)/\TupStay H H',⟨_,rfl,Nat.zero_le _,zai,⟨[],abc,rfl,rfl,by simp,by rw [zad nlD];exact zai,rfl,by unfold zbv;decide,by decide⟩,pl nMD (pl nMl p),fun b o e n=>?_,fun b u _ e=>?_⟩,?_⟩
 ·rw [zad (aD b o e),zad (al b o e)];exact e
 ·rw [zad (aD b u e),zad (al b u e)];exact e
 rintro i c ys H' ⟨rfl,hi,hDy,⟨w,r,rfl,hw,hwl,hr,hrl,hrc,hnd⟩,pp,kp,ts⟩
 refine ⟨hDy,?_⟩
 by_cases hlt:i<m.toNat
 ·right
  refine ⟨hlt,fun x H2 ⟨e2,_⟩=>?_⟩
  subst e2
  have hr0:0<r.length:=by lia
  show tBM K "list" zgi (tVar 3) _ _ H2 _
  refine ⟨_,rfl,.inl ⟨rfl,_,.of hr⟩,_,rfl,?_⟩
  refine ⟨_,rfl,_,r.length,rfl,.inl ⟨_,.of hr,by rw [List.length_map]⟩,?_⟩
  have okp:=(ok.plus D (w.map fun c=>V.str (sg c))).plus l (r.map fun c=>V.str (sg c))
  have nl2:¬ (O.plus D (.lst (w.map fun c=>V.str (sg c)))).M l:=fun mm=>by
   rcases mm with mm | mm
   ·exact nMl mm
   ·exact nlD mm
  show spD K IsPot 1 zcy ([O.v,V.int r.length] ++ []) H2 _ E0
  refine ⟨_,[.int r.length],[.int r.length],fun x=>∃ k:Int,x = .o (.int k)/\0<=k/\k<r.length,okp,(hφ.plus D _ nMD).plus l _ nl2,⟨⟨pp,hDy⟩,hr⟩,rfl,rfl,.cons (.int _) .nil,⟨_,rfl,by lia,by lia,fun k k0 k1=>⟨k,rfl,k0,k1⟩⟩,?_⟩
  rintro _ ⟨k,rfl,k0,k1⟩ v H3 st o3
  cases o3
  obtain ⟨⟨p3,hD3⟩,hl3⟩:=st.p ⟨⟨pp,hDy⟩,hr⟩
  have hk:k.toNat<r.length:=by lia
  have ek:k=((k.toNat:Nat):Int):=by lia
  refine ⟨l,_,k,k.toNat,V.str (sg r[k.toNat]),rfl,rfl,hl3,by lia,by lia,?_,by rw [List.getElem?_map,List.getElem?_eq_getElem hk];rfl,?_⟩
  ·rw [List.length_map]
   unfold seqIndex?
   simp only [show ¬ k<0 by lia,if_false]
   first | (rw [if_pos (by lia)]) | (simp;lia) | lia
  ·have ne1:D ≠ l:=Ne.symm nlD
   refine ⟨by rw [zad ne1];exact hD3,by rw [List.length_map];lia,m.toNat - (i+1),by lia,rfl,hlt,zai,⟨w ++ [r[k.toNat]],r.eraseIdx k.toNat,by rw [List.map_append];rfl,by rw [List.length_append,hw];rfl,fun c hc=>?_,?_,?_,fun c hc=>hrc c (znb hc),?_⟩,pl nMD (pl nMl p3),fun b o e n=>?_,fun b u hu e=>?_⟩
   ·rcases List.mem_append.mp hc with hc | hc
    ·exact hwl c hc
    ·rw [List.mem_singleton.mp hc];exact hrc _ (List.getElem_mem hk)
   ·rw [zad nlD,zai,zkb]
   ·rw [List.length_eraseIdx]
    rw [if_pos hk]
    lia
   ·rw [List.append_assoc]
    refine (List.Perm.nodup_iff (List.Perm.append_left w ?_)).mp hnd
    exact (zk5 hk).symm
   ·rw [zad (aD b o e),zad (al b o e)]
    exact st.s b o (kp b o e n) fun mm=>by
     rcases mm with (mm | mm) | mm
     ·exact n mm
     ·exact aD b o e mm
     ·exact al b o e mm
   ·rw [zad (aD b u e),zad (al b u e)]
    exact st.t b u hu (ts b u hu e)
 ·left
  have e:i=m.toNat:=by lia
  refine ⟨by show m.toNat<=i;lia,?_⟩
  refine ⟨D,w.map sg,rfl,by rw [hDy,List.map_map];rfl,by rw [List.length_map];lia,fun zs z hp hs hz=>?_⟩
  obtain ⟨w2,rfl,hw2⟩:=unsg (zs:=zs) fun y hy=>by
   obtain ⟨c,hc,rfl⟩:=List.mem_map.mp (hp.mem_iff.mp hy)
   exact ⟨c,rfl,hwl c hc⟩
  have hlen:w2.length=w.length:=by have:=hp.length_eq;simpa using this
  have hinc:w2.Pairwise (· < ·):=by
   refine ziy hs ?_
   have hw1:(w.map sg).Nodup:=List.pairwise_map.mpr ((List.nodup_append.mp hnd).1.imp fun ne e=>ne (zr1 e))
   have hw3:(w2.map sg).Nodup:=hp.symm.nodup_iff.mp hw1
   exact (List.pairwise_map.mp hw3).imp fun ne e=>ne (congrArg sg e)
  refine ⟨_,z,w2.map sg,rfl,rfl,zai,?_,?_⟩
  ·rw [ztu,List.length_map]
   have e0:(Str.ofString "").length=0:=by decide +kernel
   rw [e0]
   lia
  ·rw [zos]
   have az:∀ b o,H b=some o->¬ O.M b->b ≠ z:=fun b o eb n e2=>by rw [e2] at eb;have:=kp z o eb (e2 ▸ n);rw [hz] at this;cases this
   have nMz:¬ O.M z:=fun mm=>by obtain ⟨o,y⟩:=ok.here H' z pp mm;rw [hz] at y;cases y
   refine kk _ (q w2 (by lia) hw2 hinc) _ _ ⟨fun b o eb n=>by rw [zad (az b o eb n)];exact kp b o eb n,fun _=>pl nMz pp,fun b u hu eb=>?_⟩ (Is.str _)
   have h1:=ts b u hu eb
   rw [zad fun e2=>by rw [e2,hz] at h1;cases h1]
   exact h1
end L3
namespace L3
open PySem PySem.Spec
open PyProof.Rows hiding St
open L2
noncomputable abbrev Pc:=Bool × List Nat
noncomputable def zc4 (a:Bool):Str:=if a then Str.ofString "any" else Str.ofString "maybe"
noncomputable def encP (p:Pc):PyData := .tuple [.str (zc4 p.1),.str (tx p.2)]
noncomputable def zaf (ps:List Pc):PyData := .tuple (ps.map encP)
noncomputable def encE (es:List (List Pc)):PyData := .tuple (es.map zaf)
structure WfP (p:Pc):Prop where
 low:∀ c ∈ p.2,zbv c
 len:p.2.length<=100
 one:p.1=false->p.2.length=1
 ne:p.2 ≠ []
theorem zfr {w:List Nat} (h:∀ c ∈ w,zbv c):PyData.strOk (tx w)=true:=by
 unfold PyData.strOk tx
 rw [Array.all_eq_true']
 intro c hc
 have:=(h c (by simpa using hc)).2
 simp
 lia
theorem zbn (a:Bool):PyData.strOk (zc4 a)=true:=by cases a <;> decide +kernel
theorem zcu {neg:Bool} {x y:Str} (hx:PyData.strOk x=true) (hy:PyData.strOk y=true):eqF neg (.str x) (.str y)=some (.o (.bool (if neg then !(x == y) else x == y))):=by
 unfold eqF
 rw [if_pos (by simp [okD,PyData.canLay0,PyData.depth,hx,hy])]
 rfl
theorem zvb {p:Pc} (h:∀ c ∈ p.2,zbv c):(encP p).canLay0=true:=by
 simp [encP,PyData.canLay0,PyData.canLayAll0,zbn,zfr h]
theorem z1l {v w:List Nat} (h:tx v=tx w):v=w:=by
 have:=congrArg (fun x:Str=>x.cps.toList) h
 simpa [tx] using this
theorem z0o (v w:List Nat):(tx v == tx w)=decide (v=w):=by
 by_cases e:v=w
 ·subst e;simp
 ·rw [decide_eq_false e]
  exact beq_eq_false_iff_ne.mpr fun h=>e (z1l h)
theorem zv3 (a b:Bool):(zc4 a == zc4 b)=(a == b):=by cases a <;> cases b <;> decide +kernel
theorem zu3 (p q:Pc):PyData.eqv (encP p) (encP q)=decide (p=q):=by
 obtain ⟨a,v⟩:=p
 obtain ⟨b,w⟩:=q
 show (PyData.eqv (.str (zc4 a)) (.str (zc4 b)) && (PyData.eqv (.str (tx v)) (.str (tx w)) && true))=_
 show ((zc4 a == zc4 b) && ((tx v == tx w) && true))=_
 rw [zv3,z0o]
 by_cases e1:a=b
 ·subst e1
  by_cases e2:v=w
  ·subst e2;simp
  ·simp [e2]
 ·simp [e1]
theorem ziu {neg:Bool} {c:Nat} {w:List Nat}:inF neg (.str (sg c)) (.str (tx w))=some (.o (.bool (if neg then !decide (c ∈ w) else decide (c ∈ w)))):=by
 unfold inF
 show some (R.o (PyData.bool (if neg then !(!(Builtin.Str.occurrences (tx w) ⟨#[c]⟩ 0 (tx w).length 1).isEmpty) else !(Builtin.Str.occurrences (tx w) ⟨#[c]⟩ 0 (tx w).length 1).isEmpty)))=_
 rw [StrLaws.found_one,zbe]
theorem zca {neg:Bool} {i j:Int}:eqF neg (.int i) (.int j)=some (.o (.bool (if neg then !decide (i=j) else decide (i=j)))):=by
 unfold eqF
 have e:(okD (PyData.int i) && (PyData.int j).canLay0)=true:=by simp [okD,PyData.canLay0,PyData.depth]
 rw [if_pos e]
 rfl
theorem zpx {h:Nat} {g:DG} {ft:DT} {fe:DE} {ρ:DSt} {Q:List PyData->Prop} {ds:List PyData} {e:PyData->PyData} (step:∀ d ∈ ds,∀ P:R->Prop,(∀ r,r.d=e d->P r)->g d (List.replicate h none++ρ) fun ρ2=>ft ρ2 fun b=>b=true/\fe ρ2 P) :
 ∀ acc,acc.length+ds.length<=sizeLine->Q (acc++ds.map e)->(∀ d,∀ (P P':DSt->Prop) ρ,(∀ ρ,P ρ->P' ρ)->g d ρ P->g d ρ P')->(∀ ρ (P P':Bool->Prop),(∀ b,P b->P' b)->ft ρ P->ft ρ P')->zaz h g ft fe ρ Q ds acc:=by
 induction ds with
 | nil =>
   intro acc _ q _ _
   show Q acc
   simpa using q
 | cons d ds ih =>
   intro acc hz q mg mt
   have h1:=step d List.mem_cons_self
   refine mg d _ _ _ (fun ρ2 z=>mt ρ2 _ _ (fun b y=>?_) z) (h1 (fun r=>acc.length<sizeLine/\zaz h g ft fe ρ Q ds (acc ++ [r.d])) fun r hr=>?_)
   ·rw [y.1]
    exact y.2
   ·rw [List.length_cons] at hz
    refine ⟨by lia,?_⟩
    rw [hr]
    exact ih (fun d' hd=>step d' (List.mem_cons_of_mem _ hd)) (acc ++ [e d]) (by rw [List.length_append];simp;lia) (by simpa using q) mg mt
theorem zrd {i:Nat} {fe:DE} {ρ:DSt} {Q:List PyData->Prop} {ds:List PyData} {e:PyData->PyData} {h:Nat} (step:∀ d ∈ ds,∀ P:R->Prop,(∀ r,r.d=e d->P r)->fe ((List.replicate h none++ρ).set i (some (.im d))) P) (hz:ds.length<=sizeLine) (q:Q (ds.map e)) :
 zaz h (gN i) yesD fe ρ Q ds [] :=
 zpx (fun d hd P hP=>⟨rfl,step d hd P hP⟩) [] (by simpa using hz) (by simpa using q) (fun _ _ _ _ k z=>k _ z) (fun _ _ _ k z=>k _ z)
theorem zgy {α:Type} {enc:α->PyData} {i:Nat} {fe:DE} {ρ:DSt} {Q:List PyData->Prop} {as:List α} {e:α->PyData} {h:Nat} (step:∀ a ∈ as,∀ P:R->Prop,(∀ r,r.d=e a->P r)->fe ((List.replicate h none++ρ).set i (some (.im (enc a)))) P) (hz:as.length<=sizeLine) (q:Q (as.map e)) :
 zaz h (gN i) yesD fe ρ Q (as.map enc) []:=by
 have key:∀ (as:List α) (acc:List PyData),(∀ a ∈ as,∀ P:R->Prop,(∀ r,r.d=e a->P r)->fe ((List.replicate h none++ρ).set i (some (.im (enc a)))) P)->acc.length+as.length<=sizeLine->Q (acc++as.map e)->zaz h (gN i) yesD fe ρ Q (as.map enc) acc:=by
  intro as
  induction as with
  | nil=>intro acc _ _ q;show Q acc;simpa using q
  | cons a as ih =>
    intro acc st hz q
    rw [List.length_cons] at hz
    refine st a List.mem_cons_self _ fun r hr=>?_
    refine ⟨by lia,?_⟩
    rw [hr]
    exact ih (acc ++ [e a]) (fun a' ha=>st a' (List.mem_cons_of_mem _ ha)) (by rw [List.length_append];simp;lia) (by simpa using q)
 exact key as [] step (by simpa using hz) (by simpa using q)
noncomputable def covB (p q:Pc):Bool:=p.1 && q.2.all fun c=>decide (c ∈ p.2)
noncomputable def pwB (l m:Pc):Bool:=decide (l=m) || covB m l
noncomputable def pbGo (p:Pc):List Pc->Nat->Option Nat
 | [],_=>none
 | q::r,i=>if pwB p q then some (if q.1 then i else i+1) else pbGo p r (i+1)
noncomputable def pb (pr:List Pc) (start:Nat) (p:Pc):Option Nat:=pbGo p (pr.drop start) start
noncomputable def pwi (other:List Pc):List Pc->Nat->Bool
 | [],_=>true
 | p::r,place=>match pb other place p with
   | none=>false
   | some q=>pwi other r q
structure WfPr (ps:List Pc):Prop where
 all:∀ p ∈ ps,WfP p
 len:ps.length<=100
noncomputable def LowP (p:Pc):Prop:=∀ c ∈ p.2,zbv c
noncomputable def optD:Option Nat->PyData
 | none => .none
 | some n => .int n
noncomputable def OneP (p:Pc):Prop:=p.1=false->p.2.length=1
noncomputable def covF:List PyData->(R->Prop)->Prop:=fun ds Q=>∃ p q:Pc,ds = [encP p,encP q]/\LowP p/\LowP q/\p.2.length<=100/\q.2.length<=100/\Q (.o (.bool (covB p q)))
noncomputable def pwF:List PyData->(R->Prop)->Prop:=fun ds Q=>∃ p q:Pc,ds = [encP p,encP q]/\LowP p/\LowP q/\p.2.length<=100/\q.2.length<=100/\OneP p/\OneP q/\Q (.o (.bool (pwB p q)))
noncomputable def pbF:List PyData->(R->Prop)->Prop:=fun ds Q=>∃ (pr:List Pc) (st:Nat) (p:Pc),ds = [zaf pr,.int st,encP p]/\WfPr pr/\LowP p/\p.2.length<=100/\OneP p/\st<=pr.length/\Q (.o (optD (pb pr st p)))
theorem zhs (a:Bool):(zc4 a == Str.ofString "any")=a:=by cases a <;> decide +kernel
theorem zff (a:Bool):(zc4 a == Str.ofString "maybe") = !a:=by cases a <;> decide +kernel
theorem zau {g:DG} {gb:DS} {Dd:DEnds} {ds:List PyData} {ρ:DSt} (J:Nat->DSt->Prop) (h0:J 0 ρ) (fin:∀ ρ,J ds.length ρ->Dd.nx ρ)
 (step:∀ (j:Nat) d ρ (N:DSt->Prop),ds[j]? = some d->(∀ ρ',J (j+1) ρ'->N ρ')->J j ρ->flat d=true/\g d ρ fun ρ2=>gb { Dd with nx:=N,ct:=N,bk:=Dd.nx } ρ2):zel g gb Dd ds ρ:=by
 have key:∀ (k j:Nat),j+k=ds.length->∀ ρ,J j ρ->zel g gb Dd (ds.drop j) ρ:=by
  intro k
  induction k with
  | zero =>
    intro j hj ρ h
    rw [List.drop_eq_nil_of_le (by lia)]
    have e:j=ds.length:=by lia
    rw [e] at h
    exact fin ρ h
  | succ k ih =>
    intro j hj ρ h
    have hlt:j<ds.length:=by lia
    rw [List.drop_eq_getElem_cons hlt]
    exact step j ds[j] ρ _ (List.getElem?_eq_getElem hlt) (fun ρ' h'=>ih (j+1) (by lia) ρ' h') h
 have:=key ds.length 0 (by lia) ρ h0
 simpa using this
theorem zek (lo:Int) (n:Nat):(zbl lo n).length=n:=by simp [zbl]
theorem zzt (w:List Nat):(sgs (tx w)).length=w.length:=by simp [sgs,tx]
theorem zxq {w:List Nat} {j:Nat} {d:PyData} (h:(sgs (tx w))[j]? = some d):∃ c,w[j]? = some c/\d = .str (sg c):=by
 unfold sgs at h
 rw [zbe,List.getElem?_map] at h
 obtain ⟨c,hc,rfl⟩:=Option.map_eq_some_iff.mp h
 exact ⟨c,hc,rfl⟩
theorem zmi {pr:List Pc} {i:Nat} (h:i<pr.length):idxF (zaf pr) (.int (i:Nat))=some (.o (encP pr[i])):=by
 show (atI (pr.map encP) _).map R.o=_
 rw [zgn (v:=encP pr[i]) (by rw [List.getElem?_map,List.getElem?_eq_getElem h];rfl)]
 rfl
noncomputable def mbs (w:List Nat):List Pc:=w.map fun c=>(false,[c])
noncomputable def hasB (pr:List Pc) (w:List Nat):Bool:=pwi pr (mbs w) 0
theorem zj0 {p:Pc}:∀ {l:List Pc} {i q:Nat},pbGo p l i=some q->i<=q/\q<=i+l.length
 | [],_,_,h=>by cases h
 | x::r,i,q,h=>by
   rw [pbGo] at h
   split at h
   ·cases h
    rw [List.length_cons]
    split <;> lia
   ·have:=zj0 h
    rw [List.length_cons]
    lia
theorem zja {pr:List Pc} {st q:Nat} {p:Pc} (hs:st<=pr.length) (h:pb pr st p=some q):q<=pr.length:=by
 have:=(zj0 h).2
 rw [List.length_drop] at this
 lia
theorem zda {c:Nat} {q:Pc} (h:WfP q):pwB (false,[c]) q=decide (c ∈ q.2):=by
 obtain ⟨a,l⟩:=q
 unfold pwB covB
 cases a with
 | true =>
   have e:¬ ((false,[c]):Pc)=(true,l):=fun z=>by cases z
   rw [decide_eq_false e]
   simp
 | false =>
   obtain ⟨x,rfl⟩:∃ x,l = [x]:=by
    have:=h.one rfl
    match l,this with
    | [x],_=>exact ⟨x,rfl⟩
   simp
noncomputable def zax (c:Nat):List Pc->Nat->List Int
 | [],_ => []
 | q::r,i=>(if c ∈ q.2 then [((i:Int)+if q.1 then 0 else 1)] else [])++zax c r (i+1)
theorem znn {c:Nat}:∀ {l:List Pc} {i:Nat} {x:Int},x ∈ zax c l i->(i:Int)<=x
 | [],_,_,h=>by cases h
 | q::r,i,x,h=>by
   rw [zax] at h
   rcases List.mem_append.mp h with h | h
   ·split at h
    ·rw [List.mem_singleton.mp h];split <;> lia
    ·cases h
   ·have:=znn h
    lia
theorem zjc {c:Nat}:∀ {l:List Pc} {i:Nat},(∀ q ∈ l,WfP q)->(pbGo (false,[c]) l i=none/\zax c l i = [])\/∃ q:Nat,pbGo (false,[c]) l i=some q/\(q:Int) ∈ zax c l i/\∀ x ∈ zax c l i,(q:Int)<=x
 | [],_,_ => .inl ⟨rfl,rfl⟩
 | y::r,i,h=>by
   have hy:=h y List.mem_cons_self
   rw [pbGo,zax,zda hy]
   by_cases hc:c ∈ y.2
   ·right
    rw [if_pos (decide_eq_true hc),if_pos hc]
    refine ⟨_,rfl,?_,fun x hx=>?_⟩
    ·rw [List.mem_append]
     left
     cases y.1 <;> simp
    ·rcases List.mem_append.mp hx with hx | hx
     ·rw [List.mem_singleton.mp hx]
      cases y.1 <;> simp
     ·have:=znn hx
      cases y.1 <;> simp <;> lia
   ·rw [if_neg (by simp [hc]),if_neg hc,List.nil_append]
    exact zjc (i:=i+1) fun q hq=>h q (List.mem_cons_of_mem _ hq)
theorem zux {pr:List Pc} {lo c:Nat} (h:WfPr pr) (e:zax c (pr.drop lo) lo = []):pb pr lo (false,[c])=none:=by
 rcases zjc (c:=c) (l:=pr.drop lo) (i:=lo) (fun q hq=>h.all q (List.mem_of_mem_drop hq)) with z | ⟨q,z,hm,_⟩
 ·exact z.1
 ·rw [e] at hm;cases hm
theorem zzj {pr:List Pc} {lo c:Nat} {n:Int} (h:WfPr pr) (h1:n ∈ zax c (pr.drop lo) lo) (h2:∀ x ∈ zax c (pr.drop lo) lo,n<=x):pb pr lo (false,[c])=some n.toNat/\0<=n:=by
 rcases zjc (c:=c) (l:=pr.drop lo) (i:=lo) (fun q hq=>h.all q (List.mem_of_mem_drop hq)) with z | ⟨q,z,hm,hl⟩
 ·rw [z.2] at h1;cases h1
 ·have e:n=(q:Int):=Int.le_antisymm (h2 _ hm) (hl _ h1)
  rw [e]
  exact ⟨by rw [Int.toNat_natCast];exact z,by lia⟩
theorem zga {c:Nat}:∀ {l:List Pc} {i:Nat},(zax c l i).length<=l.length
 | [],_=>Nat.le_refl _
 | q::r,i=>by
   have:=zga (c:=c) (l:=r) (i:=i+1)
   rw [zax,List.length_append,List.length_cons]
   split <;> simp <;> lia
theorem zfj {c:Nat}:∀ {l:List Pc} {i k:Nat} (h:k<l.length),zax c (l.take (k+1)) i=zax c (l.take k) i++(if c ∈ l[k].2 then [((i+k:Nat):Int)+if l[k].1 then 0 else 1] else [])
 | [],_,_,h=>absurd h (by simp)
 | q::r,i,0,h=>by simp [zax]
 | q::r,i,k+1,h=>by
   have ih:=zfj (c:=c) (l:=r) (i:=i+1) (k:=k) (by simpa using h)
   rw [List.take_succ_cons,List.take_succ_cons,zax,zax,ih,List.append_assoc]
   have e:i+1+k=i+(k+1):=by lia
   rw [e]
   rfl
noncomputable def phF:List PyData->(R->Prop)->Prop:=fun ds Q=>∃ (pr:List Pc) (w:List Nat),ds = [zaf pr,.str (tx w)]/\WfPr pr/\(∀ c ∈ w,zbv c)/\w.length<=16000000/\Q (.o (.bool (hasB pr w)))
theorem zdq (p:Pc):flat (encP p)=true:=rfl
theorem zbf {α:Type} {f:α->PyData} (h:∀ a,flat (f a)=true):∀ l:List α,flats (l.map f)=true
 | []=>rfl
 | a::l=>by rw [List.map_cons,flats,h a,zbf h l];rfl
theorem zar (ps:List Pc):flat (zaf ps)=true:=zbf zdq ps
theorem zcq (es:List (List Pc)):flat (encE es)=true:=zbf zar es
theorem zii (lo:Int) (n:Nat):flats (zbl lo n)=true:=zbf (fun _=>rfl) _
end L3
namespace L3
open PySem PySem.Spec
open PyProof.Rows hiding St
open L2
noncomputable abbrev LowW (w:List Nat):Prop:=∀ c ∈ w,zbv c
theorem zci (w:List Nat):(tx w).length=w.length:=by simp [tx,Str.length]
theorem z2u {w:List Nat} (h:w.length<=16777216):lenF [.str (tx w)]=some (.o (.int w.length)):=by
 unfold lenF
 dsimp only
 rw [zci,if_pos (by rw [sizeLine_eq];exact h)]
theorem z2z {w:List Nat} {k:Nat} (h:k<w.length) (hl:w.length<=16777216):idxF (.str (tx w)) (.int (k:Nat))=some (.o (.str (tx [w[k]]))):=by
 unfold idxF
 dsimp only
 rw [zci,if_pos (by rw [sizeLine_eq];exact hl),zbe,zgn (v:=w[k]) (by rw [List.getElem?_eq_getElem h])]
 rfl
theorem zru {v w:List Nat} (h:v.length+w.length<=16777216):addF (.str (tx v)) (.str (tx w))=some (.o (.str (tx (v++w)))):=by
 unfold addF
 dsimp only
 rw [zci,zci,if_pos (by rw [sizeLine_eq];exact h)]
 have e:tx v++tx w=tx (v++w):=by
  show Str.mk _=Str.mk _
  simp [tx]
 rw [e]
theorem zoi (n d m:Nat):HT.sIx n d (some (m:Int))=min m n:=by
 have:=zhv n d (m:Int)
 rw [if_neg (by lia)] at this
 lia
theorem zl7 (n d:Nat):HT.sIx n d none=d:=rfl
theorem zc2 {α:Type} (xs:List α) (m:Nat):cutL xs none (some (m:Int))=xs.take m:=by
 unfold cutL
 rw [zoi,zl7,List.drop_zero,Nat.sub_zero,List.take_eq_take_min,Nat.min_assoc,Nat.min_self,<- List.take_eq_take_min]
theorem zc9 {α:Type} (xs:List α) (m:Nat):cutL xs (some (m:Int)) none=xs.drop m:=by
 unfold cutL
 rw [zoi,zl7]
 rcases Nat.le_total m xs.length with h | h
 ·rw [Nat.min_eq_left h,List.take_of_length_le (by rw [List.length_drop];exact Nat.le_refl _)]
 ·rw [Nat.min_eq_right h,List.drop_eq_nil_of_le (Nat.le_refl _),List.drop_eq_nil_of_le h,List.take_nil]
theorem zdj {o:Nat} {m:Int} {ρ:DSt} {Q:R->Prop} (hρ:ρ[o]? = some (some .ob)) (h0:0<m) (h1:m<1073741824) (q:∀ k:Nat,(k:Int)<m->Q (.o (.int (k:Nat)))):calO o 1 zcy (zcc (cD (.int m)) aNil) ρ Q:=by
 refine ⟨hρ,rfl,m,rfl,h0,h1,fun k k0 k1=>?_⟩
 have:=q k.toNat (by lia)
 rwa [show ((k.toNat:Nat):Int)=k by lia] at this
theorem znu {o i:Nat} {d:PyData} {n:Nat} {ρ:DSt} {Q:R->Prop} (hρ:ρ[o]? = some (some .ob)) {v:DV} (hi:ρ[i]? = some (some v)) (hv:seeR v=some d) (hl:lenF [d]=some (.o (.int (n:Nat)))) (h0:0<n) (h1:n<1073741824) (q:∀ k:Nat,k<n->Q (.o (.int (k:Nat)))) :
 calO o 1 zcy (zcc (zbm (fn1 lenF) (zcc (vD i) aNil)) aNil) ρ Q:=by
 refine ⟨hρ,_,_,hi,hv,_,hl,rfl,_,rfl,by lia,by lia,fun k k0 k1=>?_⟩
 have:=q k.toNat (by lia)
 rwa [show ((k.toNat:Nat):Int)=k by lia] at this
theorem zko {o i:Nat} {d:PyData} {n:Nat} {ρ:DSt} {Q:R->Prop} (hρ:ρ[o]? = some (some .ob)) {v:DV} (hi:ρ[i]? = some (some v)) (hv:seeR v=some d) (hl:lenF [d]=some (.o (.int (n:Nat)))) (h1:n<1073741823) (q:∀ k:Nat,k<=n->Q (.o (.int (k:Nat)))) :
 calO o 1 zcy (zcc (opDE (fn2 addF) (zbm (fn1 lenF) (zcc (vD i) aNil)) (cD (.int 1))) aNil) ρ Q:=by
 refine ⟨hρ,_,_,hi,hv,_,hl,_,rfl,rfl,_,rfl,by lia,by lia,fun k k0 k1=>?_⟩
 have:=q k.toNat (by lia)
 rwa [show ((k.toNat:Nat):Int)=k by lia] at this
theorem zk3 {o i:Nat} {ls:List Nat} {ρ:DSt} {Q:R->Prop} (hρ:ρ[o]? = some (some .ob)) (hi:ρ[i]? = some (some (.im (.str (tx ls))))) (hn:ls ≠ []) (hl:ls.length<=1000) (q:∀ c ∈ ls,Q (.o (.str (tx [c])))) :
 opDE (fn2 idxF) (vD i) (calO o 1 zcy (zcc (zbm (fn1 lenF) (zcc (vD i) aNil)) aNil)) ρ Q:=by
 have h0:0<ls.length:=List.length_pos_iff.mpr hn
 refine ⟨_,_,hi,rfl,znu hρ hi rfl (z2u (by lia)) h0 (by lia) fun k hk=>⟨_,z2z hk (by lia),q _ (List.getElem_mem hk)⟩⟩
theorem zv6 {α β:Type} {enc:α->PyData} {enc2:β->PyData} {good:β->Prop} {i h:Nat} {ft:DT} {fe:DE} {ρ:DSt} {Q:List PyData->Prop} {as:List α}
 (step:∀ a ∈ as,∀ (Pn:Prop) (Py:PyData->Prop),Pn->(∀ b,good b->Py (enc2 b))->ft ((List.replicate h none++ρ).set i (some (.im (enc a)))) fun t=>if t=true then fe ((List.replicate h none++ρ).set i (some (.im (enc a)))) (fun r=>Py r.d) else Pn)
 (hz:as.length<=1000) (q:∀ bs:List β,(∀ b ∈ bs,good b)->bs.length<=as.length->Q (bs.map enc2)):zaz h (gN i) ft fe ρ Q (as.map enc) []:=by
 have sz:=sizeLine_eq
 have key:∀ (l:List α) (bs:List β),(∀ a ∈ l,a ∈ as)->(∀ b ∈ bs,good b)->bs.length+l.length<=as.length->zaz h (gN i) ft fe ρ Q (l.map enc) (bs.map enc2):=by
  intro l
  induction l with
  | nil=>intro bs _ hb hl;exact q bs hb hl
  | cons a l ih =>
    intro bs hs hb hl
    rw [List.length_cons] at hl
    refine step a (hs a List.mem_cons_self) _ (fun d=>(bs.map enc2).length<sizeLine/\zaz h (gN i) ft fe ρ Q (l.map enc) (bs.map enc2 ++ [d])) (ih bs (fun x hx=>hs x (List.mem_cons_of_mem _ hx)) hb (by lia)) fun b gb=>⟨by rw [List.length_map];lia,?_⟩
    have:=ih (bs ++ [b]) (fun x hx=>hs x (List.mem_cons_of_mem _ hx)) (fun x hx=>by rcases List.mem_append.mp hx with hx | hx; (exact hb x hx); (rw [List.mem_singleton.mp hx];exact gb)) (by rw [List.length_append];simp;lia)
    rwa [List.map_append] at this
 exact key as [] (fun _ h=>h) (by simp) (by simp)
theorem zzd (ws:List Nat) (hl:ws.length<=1000):∃ ys:List Str,PyData.list (ws.map fun c => .str (tx [c])) = .list (ys.map .str)/\(ys.map (·.length)).sum+ys.length * (Str.ofString "").length<=16777216/\Txt.join "" ys=tx ws:=by
 refine ⟨ws.map sg,by rw [List.map_map];rfl,?_,zos ws⟩
 have e0:(Str.ofString "").length=0:=by decide +kernel
 rw [ztu,e0]
 lia
theorem zdb {g k:DS} {Dd:DEnds} {ρ:DSt} (J:DSt->Prop) (hg:∀ N:DSt->Prop,(∀ ρ,J ρ->N ρ)->g { Dd with nx:=N } ρ) (hk:∀ ρ,J ρ->k Dd ρ):seqD g k Dd ρ:=hg (k Dd) hk
theorem zvn {α β:Type} (f:α->β) (xs:List α) (lo hi:Option Int):cutL (xs.map f) lo hi=(cutL xs lo hi).map f:=by
 unfold cutL
 rw [List.length_map,List.map_take,List.map_drop]
theorem zgj (ps:List Pc):lenF [zaf ps]=some (.o (.int ps.length)):=by
 show some (R.o (.int ((ps.map encP).length:Nat)))=_
 rw [List.length_map]
theorem zdg (ps:List Pc) (lo hi:Option Int):slcF lo hi (zaf ps)=some (.o (zaf (cutL ps lo hi))):=by
 show some (R.o (.tuple (cutL (ps.map encP) lo hi)))=_
 rw [zvn]
 rfl
theorem zex {a b:List Pc} (h:a.length+b.length<=16777216):addF (zaf a) (zaf b)=some (.o (zaf (a++b))):=by
 show (if (a.map encP).length+(b.map encP).length<=sizeLine then some (R.o (.tuple (a.map encP++b.map encP))) else none)=_
 rw [List.length_map,List.length_map,if_pos (by rw [sizeLine_eq];exact h),<- List.map_append]
 rfl
theorem zx6 {w v:List Nat} (h:LowW w) (hs:∀ c ∈ v,c ∈ w):LowW v:=fun c hc=>h c (hs c hc)
theorem zz3 {v w:List Nat} (h:LowW v) (h2:LowW w):LowW (v++w):=fun x hx=>by
 rcases List.mem_append.mp hx with hx | hx
 ·exact h x hx
 ·exact h2 x hx
structure GPc (ls:List Nat) (p:Pc):Prop where
 wf:WfP p
 sub:p.2.Sublist ls
theorem zus {α:Type} {enc:α->PyData} {i h:Nat} {ft:DT} {fe:DE} {ρ:DSt} {Q:List PyData->Prop} {as:List α}
 (step:∀ a ∈ as,∀ (Pn:Prop) (Py:PyData->Prop),Pn->Py (enc a)->ft ((List.replicate h none++ρ).set i (some (.im (enc a)))) fun t=>if t=true then fe ((List.replicate h none++ρ).set i (some (.im (enc a)))) (fun r=>Py r.d) else Pn)
 (hz:as.length<=1000) (q:∀ bs:List α,bs.Sublist as->Q (bs.map enc)):zaz h (gN i) ft fe ρ Q (as.map enc) []:=by
 have sz:=sizeLine_eq
 have key:∀ (l:List α) (pre bs:List α),as=pre++l->bs.Sublist pre->zaz h (gN i) ft fe ρ Q (l.map enc) (bs.map enc):=by
  intro l
  induction l with
  | nil=>intro pre bs e hb;rw [List.append_nil] at e;subst e;exact q bs hb
  | cons a l ih =>
    intro pre bs e hb
    have hbl:bs.length<=pre.length:=hb.length_le
    have hal:as.length=pre.length+(l.length+1):=by rw [e,List.length_append,List.length_cons]
    have e2:as=(pre ++ [a])++l:=by rw [e];simp
    refine step a (by rw [e];simp) _ (fun d=>(bs.map enc).length<sizeLine/\zaz h (gN i) ft fe ρ Q (l.map enc) (bs.map enc ++ [d])) (ih (pre ++ [a]) bs e2 (hb.trans (List.sublist_append_left _ _))) ⟨by rw [List.length_map];lia,?_⟩
    have:=ih (pre ++ [a]) (bs ++ [a]) e2 (hb.append (List.Sublist.refl _))
    rwa [List.map_append] at this
 exact key as [] [] rfl (List.Sublist.refl _)
noncomputable def zi4:List PyData->(R->Prop)->Prop:=fun ds Q=>∃ ls:List Nat,ds = [.str (tx ls)]/\LowW ls/\ls ≠ []/\ls.length<=26/\∀ p:Pc,WfP p->p.2.Sublist ls->Q (.o (encP p))
noncomputable def zmf:List PyData->(R->Prop)->Prop:=fun ds Q=>∃ (ls:List Nat) (n:Nat),ds = [.str (tx ls),.int n]/\LowW ls/\ls ≠ []/\ls.length<=26/\n<=50/\∀ ps:List Pc,(∀ p ∈ ps,GPc ls p)->ps.length<=n->Q (.o (zaf ps))
noncomputable def zqd:List PyData->(R->Prop)->Prop:=fun ds Q=>∃ (ls:List Nat) (m n:Nat),ds = [.str (tx ls),.int m,.int n]/\LowW ls/\ls ≠ []/\ls.length<=26/\m<=50/\n<=50/\∀ es:List (List Pc),(∀ pr ∈ es,(∀ p ∈ pr,GPc ls p)/\pr.length<=n)->es.length<=m->Q (.o (encE es))
noncomputable def zif (K:PySem.W.Frag):Sp:=fun vs H Q _=>∃ (a:Addr) (ns:List Int),vs = [.ref a]/\SqL K H a (ns.map V.int)/\ns.length<=63/\∀ H',Q (.bl true) H'
theorem zz5 {P:Program} {w:World} {K:PySem.W.Frag} {mg:Str->Option Value} {base:Heap} {k:Nat} {st st0:Stmt} {rest:List Stmt} {N:List Str} {f₁:Addr} {fd₁:FuncData} (Fu:Fun K "law" "law" st f₁ fd₁) (S:FnScope ("_law_script" :: "_law_pot_here" :: N) ["_law_script"] (zag st))
 (hs:zbg st=st0::rest)
 (first:∀ (f:Addr) (cdv:Value) (A:Around) (outer:List Env) (s:Shared) (H:Hp) (E:XK),Ctx3 P w K mg base k (zdz P w K mg base ("_law_script" :: "_law_pot_here" :: N) "law" (zag st) f cdv A outer s H E) ->
  PS (zdz P w K mg base ("_law_script" :: "_law_pot_here" :: N) "law" (zag st) f cdv A outer s H E ()) st0 (tAsg (zeo (zlh K) [] E0 (zav (tVar 0) (zav (tC (.int 0)) tNil))) (za9 1)))
 (body:∀ (f:Addr) (cdv:Value) (A:Around) (outer:List Env) (s:Shared) (H:Hp) (E:XK),Ctx3 P w K mg base k (zdz P w K mg base ("_law_script" :: "_law_pot_here" :: N) "law" (zag st) f cdv A outer s H E) ->
  ∃ g,Ss3 K (zdz P w K mg base ("_law_script" :: "_law_pot_here" :: N) "law" (zag st) f cdv A outer s H E) (fun j:Addr × Addr=>zlg j.1 j.2) rest g/\g { nx:=fun _=>False,rt:=fun r=>r = .o (.bool true) } (none::some .ob::List.replicate N.length none)) :
 FnOk P w K mg base CX0 (k+1) f₁ fd₁ ["_law_script"] (zif K):=by
 refine Fu.ok S (fun vs H Q E h=>by obtain ⟨a,ns,rfl,_⟩:=h;rfl) (fun cdv A outer s H vs Q E hr h=>?_)
 obtain ⟨a,ns,rfl,hS,hl,q⟩:=h
 have C:=zh4 (P:=P) (w:=w) (K:=K) (mg:=mg) (base:=base) (N := "_law_script" :: "_law_pot_here" :: N) (x := "law") (sc:=zag st) (f:=f₁) (cdv:=cdv) (A:=A) (outer:=outer) (s:=s) (H:=H) (E:=E) hr
 obtain ⟨g,⟨t,h1,h2⟩,h3⟩:=body f₁ cdv A outer s H E C
 refine ⟨tSeq (tAsg (zeo (zlh K) [] E0 (zav (tVar 0) (zav (tC (.int 0)) tNil))) (za9 1)) t,?_,?_⟩
 ·rw [hs]
  exact zba (first f₁ cdv A outer s H E C) (h1 ())
 ·refine ⟨_,rfl,a,ns,rfl,hS,hl,fun p l s left H' hp hln sm pa=>?_⟩
  refine h2 (p,l) H' (fun _ _=>False) _ H' _ _ _ ⟨zwa p l,⟨s,0,left,pa⟩,⟨s,0,left,pa⟩,.refl _ _,fun _ _ _ z=>z.elim,fun _ _ z=>z.elim,fun i r e=>?_,?_⟩ h3 ⟨fun _ _ _ _ _ _ z=>z.elim,fun _ _ _ _ _ _ z=>z.elim,fun _ _ _ _ _ _ z=>z.elim,fun H' v r _ o e=>?_⟩
  ·match i with
   | 0=>cases e
   | 1=>cases e;exact ⟨_,rfl,rfl⟩
   | i+2 =>
     rw [List.getElem?_cons_succ,List.getElem?_cons_succ,List.getElem?_replicate] at e
     split at e <;> cases e
  ·rw [List.length_set]
   simp [L2.start]
  ·subst e
   cases o
   exact q H'
theorem zfz:∀ bs:List Bool,PyData.canLayAll0 (bs.map .bool)=true
 | []=>rfl
 | b::bs=>by rw [List.map_cons,PyData.canLayAll0,zfz bs];rfl
theorem zv7 {bs:List Bool}:inF false (.bool true) (.list (bs.map .bool))=some (.o (.bool (bs.any id))):=by
 show (if (okD (.bool true) && PyData.canLayAll0 (bs.map .bool))=true then some (R.o (.bool (if false=true then !(bs.map PyData.bool).any (fun y=>PyData.eqv y (.bool true)) else (bs.map PyData.bool).any fun y=>PyData.eqv y (.bool true)))) else none)=_
 have e:okD (.bool true)=true:=by simp [okD,PyData.canLay0,PyData.depth]
 rw [e,zfz,Bool.and_self,if_pos rfl,if_neg Bool.false_ne_true,List.any_map]
 have e2:((fun y=>PyData.eqv y (.bool true)) ∘ PyData.bool)=id:=by
  funext b
  cases b <;> rfl
 rw [e2]
end L3
namespace L3
open PySem PySem.Spec
open PyProof.Rows hiding St
open L2
theorem zk2 {p:Pc}:∀ (l:List Pc) (i:Nat),(pbGo p l i=none/\∀ k (h:k<l.length),pwB p l[k]=false)\/∃ (k:Nat) (h:k<l.length),pwB p l[k]=true/\(∀ j (hj:j<k),pwB p (l[j]'(by lia))=false)/\pbGo p l i=some (if l[k].1 then i+k else i+k+1)
 | [],_ => .inl ⟨rfl,fun k h=>absurd h (by simp)⟩
 | x::r,i=>by
   rw [pbGo]
   by_cases c:pwB p x=true
   ·right
    refine ⟨0,by simp,c,fun j hj=>absurd hj (by lia),?_⟩
    rw [if_pos c]
    rfl
   ·rw [if_neg c]
    have c:pwB p x=false:=by simpa using c
    rcases zk2 (p:=p) r (i+1) with ⟨h1,h2⟩ | ⟨k,h,h1,h2,h3⟩
    ·left
     refine ⟨h1,fun k h=>?_⟩
     cases k with
     | zero=>exact c
     | succ k=>exact h2 k (by simpa using h)
    ·right
     refine ⟨k+1,by simpa using h,h1,fun j hj=>?_,?_⟩
     ·cases j with
      | zero=>exact c
      | succ j=>exact h2 j (by lia)
     ·rw [h3]
      show some _=some (if r[k].1=true then i+(k+1) else i+(k+1)+1)
      congr 1
      split <;> lia
theorem zcf (other:List Pc) (st:Nat) (p:Pc):(pb other st p=none/\∀ i (h:i<other.length),st<=i->pwB p other[i]=false)\/∃ (i:Nat) (h:i<other.length),st<=i/\pwB p other[i]=true/\(∀ j (hj:j<i),st<=j->pwB p (other[j]'(by lia))=false)/\pb other st p=some (if other[i].1 then i else i+1):=by
 rcases zk2 (p:=p) (other.drop st) st with ⟨h1,h2⟩ | ⟨k,h,h1,h2,h3⟩
 ·left
  refine ⟨h1,fun i h hs=>?_⟩
  have:=h2 (i - st) (by rw [List.length_drop];lia)
  rw [List.getElem_drop] at this
  have e:st+(i - st)=i:=by lia
  simpa [e] using this
 ·right
  rw [List.length_drop] at h
  refine ⟨st+k,by lia,by lia,?_,fun j hj hs=>?_,?_⟩
  ·rw [List.getElem_drop] at h1;exact h1
  ·have:=h2 (j - st) (by lia)
   rw [List.getElem_drop] at this
   have e:st+(j - st)=j:=by lia
   simpa [e] using this
  ·rw [List.getElem_drop] at h3;exact h3
noncomputable def runL (other:List Pc):List Nat->Nat->Option Nat
 | [],st=>some st
 | c::r,st=>match pb other st (false,[c]) with
   | none=>none
   | some q=>runL other r q
theorem zjh (other rest:List Pc):∀ (w:List Nat) (st:Nat),pwi other (mbs w++rest) st=match runL other w st with | none=>false | some q=>pwi other rest q
 | [],st=>rfl
 | c::r,st=>by
   show pwi other ((false,[c])::(mbs r++rest)) st=_
   rw [pwi,runL]
   cases pb other st (false,[c]) with
   | none=>rfl
   | some q=>exact zjh other rest r q
theorem zeb (other:List Pc):∀ (v w:List Nat) (st:Nat),runL other (v++w) st=(runL other v st).bind (runL other w)
 | [],w,st=>rfl
 | c::v,w,st=>by
   show (match pb other st (false,[c]) with | none=>none | some q=>runL other (v++w) q)=(match pb other st (false,[c]) with | none=>none | some q=>runL other v q).bind _
   cases pb other st (false,[c]) with
   | none=>rfl
   | some q=>exact zeb other v w q
section
variable {other : List Pc} (wf : WfPr other)
include wf
theorem zps {st q c:Nat} (h:pb other st (false,[c])=some q):st<=q:=(zj0 h).1
theorem zm3:∀ {w:List Nat} {st q:Nat},runL other w st=some q->st<=q
 | [],st,q,h=>by cases h;exact Nat.le_refl _
 | c::r,st,q,h=>by
   rw [runL] at h
   cases e:pb other st (false,[c]) with
   | none=>rw [e] at h;cases h
   | some p =>
     rw [e] at h
     exact Nat.le_trans (zps wf e) (zm3 h)
noncomputable def Cov (other:List Pc) (L:List Nat) (i:Nat):Prop:=∃ h:i<other.length,other[i].1=true/\∀ c ∈ L,c ∈ other[i].2
theorem zvj {L:List Nat} {i st c:Nat} (hc:c ∈ L) (hi:Cov other L i) (hs:st<=i):∃ q,pb other st (false,[c])=some q/\st<=q/\q<=i:=by
 obtain ⟨hl,ha,hL⟩:=hi
 rcases zcf other st (false,[c]) with ⟨h1,h2⟩ | ⟨k,h,h1,h2,h3,h4⟩
 ·have:=h2 i hl hs
  rw [zda (wf.all _ (List.getElem_mem hl)),decide_eq_false_iff_not] at this
  exact absurd (hL c hc) this
 ·refine ⟨_,h4,?_,?_⟩
  ·split <;> lia
  ·have hk:k<=i:=by
    rcases Nat.lt_or_ge i k with z | z
    ·have:=h3 i z hs
     rw [zda (wf.all _ (List.getElem_mem hl)),decide_eq_false_iff_not] at this
     exact absurd (hL c hc) this
    ·exact z
   rcases Nat.lt_or_ge k i with z | z
   ·split <;> lia
   ·have e:k=i:=by lia
    subst e
    rw [if_pos ha]
    exact Nat.le_refl _
theorem zjn {L:List Nat} {i:Nat} (hi:Cov other L i):∀ {w:List Nat} {st:Nat},(∀ c ∈ w,c ∈ L)->st<=i->∃ q,runL other w st=some q/\st<=q/\q<=i
 | [],st,_,hs=>⟨st,rfl,Nat.le_refl _,hs⟩
 | c::r,st,hw,hs=>by
   obtain ⟨q,h1,h2,h3⟩:=zvj wf (hw c List.mem_cons_self) hi hs
   obtain ⟨q2,h4,h5,h6⟩:=zjn hi (w:=r) (fun x hx=>hw x (List.mem_cons_of_mem _ hx)) h3
   exact ⟨q2,by rw [runL,h1];exact h4,by lia,h6⟩
theorem zrl {st c:Nat} (h:pb other st (false,[c])=some st):∃ hl:st<other.length,other[st].1=true/\c ∈ other[st].2:=by
 rcases zcf other st (false,[c]) with ⟨h1,h2⟩ | ⟨k,hk,h1,h2,h3,h4⟩
 ·rw [h1] at h;cases h
 ·rw [h4] at h
  have h:=Option.some.inj h
  rw [zda (wf.all _ (List.getElem_mem hk)),decide_eq_true_eq] at h2
  by_cases e:other[k].1=true
  ·rw [if_pos e] at h
   subst h
   exact ⟨hk,e,h2⟩
  ·rw [if_neg e] at h
   lia
theorem zmp:∀ {w:List Nat} {st:Nat},runL other w st=some st->w ≠ []->Cov other w st:=by
 intro w
 induction w with
 | nil=>intro st _ h;exact absurd rfl h
 | cons c r ih =>
   intro st h _
   rw [runL] at h
   cases e:pb other st (false,[c]) with
   | none=>rw [e] at h;cases h
   | some p =>
     rw [e] at h
     have h:runL other r p=some st:=h
     have a:=zps wf e
     have b:=zm3 wf h
     have e2:p=st:=by lia
     subst e2
     obtain ⟨hl,h1,h2⟩:=zrl wf e
     refine ⟨hl,h1,fun x hx=>?_⟩
     rcases List.mem_cons.mp hx with rfl | hx
     ·exact h2
     ·by_cases hr:r = []
      ·rw [hr] at hx;cases hx
      ·exact (ih h hr).2.2 x hx
theorem ztt {L:List Nat} (hL:L ≠ []) {i:Nat} (hi:Cov other L i):∀ (n:Nat) {st:Nat},st<=i->(∀ j,st<=j->j<i->¬ Cov other L j)->i<st+n->runL other (List.replicate n L).flatten st=some i
 | 0,st,hs,hf,hn=>by
   have e:st=i:=by lia
   lia
 | n+1,st,hs,hf,hn=>by
   rw [List.replicate_succ,List.flatten_cons,zeb]
   obtain ⟨q,h1,h2,h3⟩:=zjn wf hi (w:=L) (fun _ h=>h) hs
   rw [h1]
   show runL other _ q=some i
   by_cases e:q=st
   ·subst e
    have c:=zmp wf h1 hL
    have ei:q=i:=by
     rcases Nat.lt_or_ge q i with z | z
     ·exact absurd c (hf q (Nat.le_refl _) z)
     ·lia
    subst ei
    clear hn h1 hf
    induction n with
    | zero=>rfl
    | succ n ih =>
      rw [List.replicate_succ,List.flatten_cons,zeb]
      obtain ⟨p,h1,h4,h5⟩:=zjn wf hi (w:=L) (fun _ h=>h) (Nat.le_refl _)
      rw [h1]
      have e:p=q:=by lia
      subst e
      exact ih
   ·exact ztt hL hi n h3 (fun j hj=>hf j (by lia)) (by lia)
theorem zn6 {L:List Nat} (hL:L ≠ []):∀ (n:Nat) {st q:Nat},(∀ j,st<=j->¬ Cov other L j)->runL other (List.replicate n L).flatten st=some q->st+n<=q
 | 0,st,q,_,h=>by cases h;lia
 | n+1,st,q,hf,h=>by
   rw [List.replicate_succ,List.flatten_cons,zeb] at h
   cases e:runL other L st with
   | none=>rw [e] at h;cases h
   | some p =>
     rw [e] at h
     have h:runL other (List.replicate n L).flatten p=some q:=h
     have a:=zm3 wf e
     have b:p ≠ st:=fun z=>by
      subst z
      exact hf p (Nat.le_refl _) (zmp wf e hL)
     have:=zn6 hL n (fun j hj=>hf j (by lia)) h
     lia
theorem zch:∀ {w:List Nat} {st q:Nat},st<=other.length->runL other w st=some q->q<=other.length
 | [],st,q,hs,h=>by cases h;exact hs
 | c::r,st,q,hs,h=>by
   rw [runL] at h
   cases e:pb other st (false,[c]) with
   | none=>rw [e] at h;cases h
   | some p =>
     rw [e] at h
     exact zch (zja hs e) h
theorem zjo {L:List Nat} {q:Pc}:pwB (true,L) q=true↔q.1=true/\∀ c ∈ L,c ∈ q.2:=by
 obtain ⟨a,v⟩:=q
 unfold pwB covB
 constructor
 ·intro h
  rcases (Bool.or_eq_true _ _).mp h with h | h
  ·cases of_decide_eq_true h
   exact ⟨rfl,fun c hc=>hc⟩
  ·obtain ⟨h1,h2⟩:=(Bool.and_eq_true _ _).mp h
   exact ⟨h1,fun c hc=>of_decide_eq_true (List.all_eq_true.mp h2 c hc)⟩
 ·rintro ⟨h1,h2⟩
  rw [Bool.or_eq_true]
  right
  rw [Bool.and_eq_true]
  exact ⟨h1,List.all_eq_true.mpr fun c hc=>decide_eq_true (h2 c hc)⟩
theorem zyo {L:List Nat} (hL:L ≠ []) {st n:Nat} (hs:st<=other.length) (hn:other.length<n):runL other (List.replicate n L).flatten st=pb other st (true,L):=by
 rcases zcf other st (true,L) with ⟨h1,h2⟩ | ⟨i,h,h1,h2,h3,h4⟩
 ·rw [h1]
  cases e:runL other (List.replicate n L).flatten st with
  | none=>rfl
  | some q =>
    have a:=zch wf hs e
    have b:=zn6 wf hL n (fun j hj ⟨hl,c1,c2⟩=>by
     have:=h2 j hl hj
     rw [(zjo wf).mpr ⟨c1,c2⟩] at this
     cases this) e
    lia
 ·obtain ⟨c1,c2⟩:=(zjo wf).mp h2
  rw [h4,if_pos c1]
  exact ztt wf hL ⟨h,c1,c2⟩ n h1 (fun j hj hji ⟨hl,d1,d2⟩=>by
   have:=h3 j hji hj
   rw [(zjo wf).mpr ⟨d1,d2⟩] at this
   cases this) (by lia)
end
noncomputable def zbu (pr:List Pc) (n:Nat):List Nat:=(pr.map fun p=>if p.1 then (List.replicate n p.2).flatten else p.2).flatten
theorem zop (v w:List Nat):mbs (v++w)=mbs v++mbs w:=List.map_append
theorem zdi {other:List Pc} (wf:WfPr other) {n:Nat} (hn:other.length<n):∀ {one:List Pc} {st:Nat},(∀ p ∈ one,WfP p)->st<=other.length->pwi other one st=pwi other (mbs (zbu one n)) st
 | [],st,_,_=>rfl
 | p::r,st,h,hs=>by
   have hp:=h p List.mem_cons_self
   have e:zbu (p::r) n=(if p.1 then (List.replicate n p.2).flatten else p.2)++zbu r n:=by
    unfold zbu
    rw [List.map_cons,List.flatten_cons]
   rw [e,zop,zjh,pwi]
   have key:runL other (if p.1 then (List.replicate n p.2).flatten else p.2) st=pb other st p:=by
    obtain ⟨a,L⟩:=p
    cases a with
    | true=>exact zyo wf hp.ne hs hn
    | false =>
      have:=hp.one rfl
      match L,this with
      | [c],_ =>
        show (match pb other st (false,[c]) with | none=>none | some q=>runL other [] q)=_
        cases pb other st (false,[c]) with
        | none=>rfl
        | some q=>rfl
   rw [key]
   cases e2:pb other st p with
   | none=>rfl
   | some q=>exact zdi wf hn (fun x hx=>h x (List.mem_cons_of_mem _ hx)) (zja hs e2)
theorem zid {α:Type} (n:Nat) (l:List α):(List.replicate n l).flatten.length=n * l.length:=ze0 l n
theorem zfh (p:Pc) (r:List Pc) (n:Nat):zbu (p::r) n=(if p.1 then (List.replicate n p.2).flatten else p.2)++zbu r n:=by
 unfold zbu
 rw [List.map_cons,List.flatten_cons]
theorem zgg {n:Nat}:∀ {pr:List Pc},(∀ p ∈ pr,p.2.length<=100)->(zbu pr n).length<=pr.length * (100 * (n+1))
 | [],_=>Nat.zero_le _
 | p::r,h=>by
   have ih:=zgg (n:=n) (pr:=r) fun x hx=>h x (List.mem_cons_of_mem _ hx)
   have h1:=h p List.mem_cons_self
   rw [zfh,List.length_append,List.length_cons,Nat.succ_mul]
   have h2:(if p.1 then (List.replicate n p.2).flatten else p.2).length<=100 * (n+1):=by
    split
    ·rw [zid]
     calc n * p.2.length<=n * 100:=Nat.mul_le_mul_left _ h1
      _<=100 * (n+1):=by lia
    ·lia
   lia
theorem zks {n:Nat}:∀ {pr:List Pc},(∀ p ∈ pr,LowW p.2)->LowW (zbu pr n)
 | [],_=>fun c hc=>nomatch hc
 | p::r,h=>by
   rw [zfh]
   refine zz3 (fun c hc=>h p List.mem_cons_self c ?_) (zks fun x hx=>h x (List.mem_cons_of_mem _ hx))
   split at hc
   ·obtain ⟨l,hl,hc⟩:=List.mem_flatten.mp hc
    rwa [(List.mem_replicate.mp hl).2] at hc
   ·exact hc
noncomputable def zwz:List PyData->(R->Prop)->Prop:=fun ds Q=>∃ (pr:List Pc) (n:Nat),ds = [zaf pr,.int n]/\WfPr pr/\n<=200/\Q (.o (.str (tx (zbu pr n))))
noncomputable def za0 (one other:List Pc):Bool:=hasB other (zbu one (other.length+1))
noncomputable def zrk:List PyData->(R->Prop)->Prop:=fun ds Q=>∃ (one other:List Pc),ds = [zaf one,zaf other]/\WfPr one/\WfPr other/\Q (.o (.bool (za0 one other)))
theorem zbw {one other:List Pc} (h1:WfPr one) (h2:WfPr other):pwi other one 0=za0 one other:=zdi h2 (Nat.lt_succ_self _) h1.all (Nat.zero_le _)
end L3
namespace L3
open PySem PySem.Spec
open PyProof.Rows hiding St
open L2
inductive Mem:List Pc->List Nat->Prop
 | nil:Mem [] []
 | skip {p:Pc} {r:List Pc} {w:List Nat}:Mem r w->Mem (p::r) w
 | one {p:Pc} {r:List Pc} {c:Nat} {w:List Nat}:p.1=false->c ∈ p.2->Mem r w->Mem (p::r) (c::w)
 | any {p:Pc} {r:List Pc} {c:Nat} {w:List Nat}:p.1=true->c ∈ p.2->Mem (p::r) w->Mem (p::r) (c::w)
theorem Mem.empty:∀ l:List Pc,Mem l []
 | [] => .nil
 | _::l => .skip (Mem.empty l)
theorem Mem.drop {l:List Pc} {w:List Nat}:∀ {i j:Nat},i<=j->Mem (l.drop j) w->Mem (l.drop i) w:=by
 intro i j h m
 obtain ⟨k,rfl⟩:∃ k,j=i+k:=⟨j - i,by lia⟩
 clear h
 induction k with
 | zero=>exact m
 | succ k ih =>
   apply ih
   by_cases hl:i+k<l.length
   ·rw [List.drop_eq_getElem_cons hl]
    exact .skip m
   ·rw [List.drop_eq_nil_of_le (by lia)] at m ⊢
    exact m
theorem Mem.inv {l:List Pc} {v:List Nat} (m:Mem l v):∀ {c:Nat} {w:List Nat},v=c::w->∃ (j:Nat) (h:j<l.length),c ∈ l[j].2/\Mem (l.drop (if l[j].1 then j else j+1)) w:=by
 induction m with
 | nil=>intro c w e;cases e
 | skip m ih =>
   intro c w e
   obtain ⟨j,h,h1,h2⟩:=ih e
   refine ⟨j+1,by simpa using h,h1,?_⟩
   show Mem (List.drop (if _ then j+1 else j+1+1) (_::_)) w
   split <;> rename_i c1
   ·rw [List.getElem_cons_succ] at c1
    rw [if_pos c1] at h2;exact h2
   ·rw [List.getElem_cons_succ] at c1
    rw [if_neg c1] at h2;exact h2
 | one hp hc m ih =>
   intro c w e
   cases e
   refine ⟨0,by simp,hc,?_⟩
   rw [if_neg (by rw [List.getElem_cons_zero,hp];exact Bool.false_ne_true)]
   exact m
 | any hp hc m ih =>
   intro c w e
   cases e
   refine ⟨0,by simp,hc,?_⟩
   rw [if_pos (by rw [List.getElem_cons_zero];exact hp)]
   exact m
theorem zg1 {pr:List Pc} (wf:WfPr pr):∀ {w:List Nat} {st:Nat},pwi pr (mbs w) st=true↔Mem (pr.drop st) w
 | [],st=>⟨fun _ => .empty _,fun _=>rfl⟩
 | c::w,st=>by
   show pwi pr ((false,[c])::mbs w) st=true↔_
   rw [pwi]
   rcases zcf pr st (false,[c]) with ⟨h1,h2⟩ | ⟨i,h,h1,h2,h3,h4⟩
   ·rw [h1]
    refine ⟨fun z=>(by cases z),fun m=>?_⟩
    obtain ⟨j,hj,hc,_⟩:=m.inv rfl
    rw [List.length_drop] at hj
    have z:=h2 (st+j) (by lia) (by lia)
    rw [zda (wf.all _ (List.getElem_mem (by lia))),decide_eq_false_iff_not] at z
    rw [List.getElem_drop] at hc
    exact absurd hc z
   ·rw [h4]
    rw [zda (wf.all _ (List.getElem_mem h)),decide_eq_true_eq] at h2
    show pwi pr (mbs w) _=true↔_
    rw [zg1 wf]
    constructor
    ·intro m
     refine Mem.drop h1 ?_
     rw [List.drop_eq_getElem_cons h]
     by_cases e:pr[i].1=true
     ·rw [if_pos e,List.drop_eq_getElem_cons h] at m
      exact .any e h2 m
     ·rw [if_neg e] at m
      exact .one (by simpa using e) h2 m
    ·intro m
     obtain ⟨j,hj,hc,m2⟩:=m.inv rfl
     rw [List.length_drop] at hj
     rw [List.getElem_drop] at hc
     have e0:(pr.drop st)[j]'(by rw [List.length_drop];exact hj)=pr[st+j]'(by lia):=List.getElem_drop
     rw [e0,List.drop_drop] at m2
     have hij:i<=st+j:=by
      rcases Nat.lt_or_ge (st+j) i with z | z
      ·have y:=h3 (st+j) z (by lia)
       rw [zda (wf.all _ (List.getElem_mem (by lia))),decide_eq_false_iff_not] at y
       exact absurd hc y
      ·exact z
     rcases Nat.lt_or_ge i (st+j) with z | z
     ·refine Mem.drop ?_ m2
      split <;> split <;> lia
     ·have e:i=st+j:=by lia
      subst e
      refine Mem.drop ?_ m2
      split <;> lia
theorem zbb {pr:List Pc} (wf:WfPr pr) {w:List Nat}:hasB pr w=true↔Mem pr w:=zg1 wf (st:=0)
noncomputable def sw (a b:Pc):Prop:=a.1=true/\∀ c ∈ b.2,c ∈ a.2
theorem zgf {r r':List Pc} (h:∀ w,Mem r w->Mem r' w):∀ {l:List Pc} {w:List Nat},Mem (l++r) w->Mem (l++r') w:=by
 intro l w m
 generalize e:l++r=x at m
 induction m generalizing l with
 | nil =>
   obtain ⟨rfl,rfl⟩:=List.append_eq_nil_iff.mp e
   exact h _ .nil
 | skip m ih =>
   cases l with
   | nil=>exact h _ (by rw [show r=_ from e];exact .skip m)
   | cons y l=>cases e;exact .skip (ih rfl)
 | one hp hc m ih =>
   cases l with
   | nil=>exact h _ (by rw [show r=_ from e];exact .one hp hc m)
   | cons y l=>cases e;exact .one hp hc (ih rfl)
 | any hp hc m ih =>
   cases l with
   | nil=>exact h _ (by rw [show r=_ from e];exact .any hp hc m)
   | cons y l =>
     have e2:=e
     rw [List.cons_append] at e2
     injection e2 with e3 e4
     subst e3
     exact .any hp hc (ih (l:=y::l) e)
theorem zno {l r:List Pc} {x:Pc} {w:List Nat} (m:Mem (l++r) w):Mem (l++x::r) w:=zgf (fun _ m => .skip m) m
theorem zvl {a b:Pc} (h:sw a b) {r:List Pc}:∀ {w:List Nat},Mem (b::r) w->Mem (a::r) w:=by
 intro w
 induction w with
 | nil=>intro _;exact .empty _
 | cons c w ih =>
   intro m
   cases m with
   | skip m=>exact .skip m
   | one hp hc m=>exact .any h.1 (h.2 _ hc) (.skip m)
   | any hp hc m=>exact .any h.1 (h.2 _ hc) (ih m)
theorem zxt {a b:Pc} (h:sw a b) {r:List Pc}:∀ {w:List Nat},Mem (a::b::r) w->Mem (a::r) w:=by
 intro w
 induction w with
 | nil=>intro _;exact .empty _
 | cons c w ih =>
   intro m
   cases m with
   | skip m=>exact zvl h m
   | one hp hc m=>rw [h.1] at hp;cases hp
   | any hp hc m=>exact .any hp hc (ih m)
theorem zye {a b:Pc} (h:sw a b) {r:List Pc}:∀ {w:List Nat},Mem (b::a::r) w->Mem (a::r) w:=by
 intro w
 induction w with
 | nil=>intro _;exact .empty _
 | cons c w ih =>
   intro m
   cases m with
   | skip m=>exact m
   | one hp hc m=>exact .any h.1 (h.2 _ hc) m
   | any hp hc m=>exact .any h.1 (h.2 _ hc) (ih m)
theorem ze5 {n:Nat}:∀ {pr:List Pc},(∀ p ∈ pr,WfP p)->Mem pr (zbu pr n)
 | [],_ => .nil
 | p::r,h=>by
   have ih:=ze5 (n:=n) (pr:=r) fun x hx=>h x (List.mem_cons_of_mem _ hx)
   have hp:=h p List.mem_cons_self
   rw [zfh]
   have pre:∀ v:List Nat,p.1=true->(∀ c ∈ v,c ∈ p.2)->Mem (p::r) (v++zbu r n):=by
    intro v hp1
    induction v with
    | nil=>intro _;exact .skip ih
    | cons c v iv=>intro hv;exact .any hp1 (hv c List.mem_cons_self) (iv fun x hx=>hv x (List.mem_cons_of_mem _ hx))
   by_cases e:p.1=true
   ·rw [if_pos e]
    refine pre _ e fun c hc=>?_
    obtain ⟨l,hl,hc⟩:=List.mem_flatten.mp hc
    rwa [(List.mem_replicate.mp hl).2] at hc
   ·rw [if_neg e]
    have e:p.1=false:=by simpa using e
    have:=hp.one e
    obtain ⟨a,L⟩:=p
    match L,this with
    | [c],_=>exact .one e (by simp) ih
theorem cov_sw {a b:Pc}:covB a b=true↔sw a b:=by
 unfold covB sw
 rw [Bool.and_eq_true,List.all_eq_true]
 exact ⟨fun ⟨x,y⟩=>⟨x,fun c hc=>of_decide_eq_true (y c hc)⟩,fun ⟨x,y⟩=>⟨x,fun c hc=>decide_eq_true (y c hc)⟩⟩
theorem sw.trans {a b c:Pc} (x:sw a b) (y:sw b c):sw a c:=⟨x.1,fun d hd=>x.2 d (y.2 d hd)⟩
noncomputable def popC (a:Pc):List Pc->List Pc
 | [] => []
 | t::r=>if covB a t then popC a r else t::r
noncomputable def zbq (T:List Pc) (a:Pc):List Pc:=match popC a T with
 | [] => [a]
 | t::r=>if covB t a then t::r else a::t::r
noncomputable def zbx (pr:List Pc):List Pc:=(pr.foldl zbq []).reverse
theorem zml {a:Pc}:∀ {T:List Pc} {t:Pc} {r:List Pc},popC a T=t::r->covB a t=false
 | [],_,_,h=>by cases h
 | x::T,t,r,h=>by
   rw [popC] at h
   split at h
   ·exact zml h
   ·cases h
    rename_i z
    simpa using z
noncomputable def zdh (pr:List Pc):Prop:=∀ l a b r,pr=l++a::b::r->¬ sw a b/\¬ sw b a
end L3
namespace L3
open PySem PySem.Spec
open PyProof.Rows hiding St
open L2
theorem zpg {x:Pc} {l:List Pc} {w:List Nat}:∀ T:List Pc,Mem ((popC x T).reverse++x::l) w↔Mem (T.reverse++x::l) w
 | []=>Iff.rfl
 | t::r=>by
   rw [popC]
   by_cases c:covB x t=true
   ·rw [if_pos c,zpg r,List.reverse_cons,List.append_assoc]
    show _↔Mem (r.reverse++t::x::l) w
    exact ⟨zno,zgf fun _ m=>zye (cov_sw.mp c) m⟩
   ·rw [if_neg c]
theorem zun {x:Pc} {l:List Pc} {w:List Nat} (T:List Pc):Mem ((zbq T x).reverse++l) w↔Mem (T.reverse++x::l) w:=by
 rw [<- zpg T]
 unfold zbq
 cases popC x T with
 | nil=>exact Iff.rfl
 | cons t r =>
   show Mem ((if covB t x=true then t::r else x::t::r).reverse++l) w↔_
   by_cases c:covB t x=true
   ·rw [if_pos c,List.reverse_cons,List.append_assoc,List.append_assoc]
    show Mem (r.reverse++t::l) w↔Mem (r.reverse++t::x::l) w
    have e:∀ y,r.reverse++t::y=(r.reverse ++ [t])++y:=fun y=>by simp
    constructor
    ·intro m
     rw [e] at m ⊢
     exact zno m
    ·exact zgf fun _ m=>zxt (cov_sw.mp c) m
   ·rw [if_neg c,List.reverse_cons (a:=x),List.append_assoc]
    exact Iff.rfl
theorem zn7 {w:List Nat}:∀ (l T:List Pc),Mem ((l.foldl zbq T).reverse) w↔Mem (T.reverse++l) w
 | [],T=>by rw [List.append_nil];exact Iff.rfl
 | x::l,T=>by rw [List.foldl_cons,zn7 l,zun]
theorem stack_mem {pr:List Pc} {w:List Nat}:Mem (zbx pr) w↔Mem pr w:=zn7 pr []
noncomputable def Nb:List Pc->Prop
 | a::b::r=>(¬ sw a b/\¬ sw b a)/\Nb (b::r)
 | _=>True
theorem Nb.tail {a:Pc}:∀ {r:List Pc},Nb (a::r)->Nb r
 | [],_=>trivial
 | _::_,h=>h.2
theorem Nb.pop {x:Pc}:∀ {T:List Pc},Nb T->Nb (popC x T)
 | [],h=>h
 | t::r,h=>by
   rw [popC]
   split
   ·exact Nb.pop h.tail
   ·exact h
theorem Nb.push {x:Pc} {T:List Pc} (h:Nb T):Nb (zbq T x):=by
 have hp:=Nb.pop (x:=x) h
 unfold zbq
 cases e:popC x T with
 | nil=>trivial
 | cons t r =>
   rw [e] at hp
   show Nb (if covB t x=true then t::r else x::t::r)
   split
   ·exact hp
   ·rename_i c
    refine ⟨⟨fun s=>?_,fun s=>c (cov_sw.mpr s)⟩,hp⟩
    have:=cov_sw.mpr s
    rw [zml e] at this
    cases this
theorem Nb.fold:∀ {l T:List Pc},Nb T->Nb (l.foldl zbq T)
 | [],_,h=>h
 | x::l,_,h=>Nb.fold (l:=l) h.push
theorem Nb.at {a b:Pc} {r:List Pc}:∀ {l:List Pc},Nb (l++a::b::r)->¬ sw a b/\¬ sw b a
 | [],h=>h.1
 | _::_,h=>Nb.at h.tail
theorem zoe (pr:List Pc):zdh (zbx pr):=by
 intro l a b r e
 have h:Nb (pr.foldl zbq []):=Nb.fold trivial
 unfold zbx at e
 have e2:=congrArg List.reverse e
 rw [List.reverse_reverse] at e2
 rw [e2] at h
 have h:=Nb.at (l:=r.reverse) (a:=b) (b:=a) (r:=l.reverse) (by simpa using h)
 exact ⟨h.2,h.1⟩
theorem popC_sub {x:Pc}:∀ {T:List Pc},(popC x T).Sublist T
 | []=>List.Sublist.refl _
 | t::r=>by
   rw [popC]
   split
   ·exact popC_sub.cons _
   ·exact List.Sublist.refl _
theorem zuj {x:Pc} {T:List Pc}:(zbq T x).Sublist (x::T):=by
 have h:=popC_sub (x:=x) (T:=T)
 unfold zbq
 cases e:popC x T with
 | nil=>simp
 | cons t r =>
   rw [e] at h
   show (if covB t x=true then t::r else x::t::r).Sublist _
   split
   ·exact h.cons _
   ·exact h.cons₂ _
theorem znl:∀ {l T:List Pc},((l.foldl zbq T).reverse).Sublist (T.reverse++l)
 | [],T=>by rw [List.append_nil];exact List.Sublist.refl _
 | x::l,T=>by
   refine (znl (l:=l) (T:=zbq T x)).trans ?_
   have:=((zuj (x:=x) (T:=T)).reverse).append (List.Sublist.refl l)
   simpa using this
theorem zdk (pr:List Pc):(zbx pr).Sublist pr:=znl (l:=pr) (T := [])
theorem zmq:∀ {v w:List Nat},v.Pairwise (· < ·)->w.Pairwise (· < ·)->(∀ c,c ∈ v↔c ∈ w)->v=w
 | [],[],_,_,_=>rfl
 | [],b::w,_,_,h=>by have:=(h b).mpr List.mem_cons_self;cases this
 | a::v,[],_,_,h=>by have:=(h a).mp List.mem_cons_self;cases this
 | a::v,b::w,hv,hw,h=>by
   have v1:=List.pairwise_cons.mp hv
   have w1:=List.pairwise_cons.mp hw
   have e:a=b:=by
    rcases List.mem_cons.mp ((h a).mp List.mem_cons_self) with e | e
    ·exact e
    ·rcases List.mem_cons.mp ((h b).mpr List.mem_cons_self) with e2 | e2
     ·exact e2.symm
     ·have x1:=v1.1 b e2
      have x2:=w1.1 a e
      lia
   subst e
   rw [zmq v1.2 w1.2 fun c=>?_]
   have hc:=h c
   constructor
   ·intro m
    rcases List.mem_cons.mp (hc.mp (List.mem_cons_of_mem _ m)) with e | e
    ·subst e;exact absurd (v1.1 c m) (Nat.lt_irrefl _)
    ·exact e
   ·intro m
    rcases List.mem_cons.mp (hc.mpr (List.mem_cons_of_mem _ m)) with e | e
    ·subst e;exact absurd (w1.1 c m) (Nat.lt_irrefl _)
    ·exact e
theorem zqi {a b:Pc} (ha:a.2.Pairwise (· < ·)) (hb:b.2.Pairwise (· < ·)) (x:sw a b) (y:sw b a):a=b:=by
 obtain ⟨p,v⟩:=a
 obtain ⟨q,w⟩:=b
 have e:v=w:=zmq ha hb fun c=>⟨fun m=>y.2 c m,fun m=>x.2 c m⟩
 have e2:p=q:=x.1.trans y.1.symm
 rw [e,e2]
end L3
namespace L3
section
open PySem PySem.Builtin PySem.Builtin.Str
noncomputable def sOk (x:PySem.Str):Prop:=∀ c ∈ x.cps.toList,c<0x110000
theorem strOk_iff {x:PySem.Str}:PyData.strOk x=true↔sOk x:=by
 unfold PyData.strOk sOk
 rw [Array.all_eq_true']
 simp
theorem zd3 {x y:PySem.Str} (hx:sOk x) (hy:sOk y):sOk (x++y):=by
 intro c hc
 have e:(x++y).cps.toList=x.cps.toList++y.cps.toList:=by
  show (x.cps++y.cps).toList=_
  simp
 rw [e] at hc
 rcases List.mem_append.mp hc with hc | hc
 ·exact hx c hc
 ·exact hy c hc
theorem zol (c:Char):c.toNat<0x110000:=by
 have:=c.valid
 rcases this with h | h
 ·exact Nat.lt_trans h (by decide)
 ·exact h.2
theorem zc1 (s:String):sOk (PySem.Str.ofString s):=by
 intro c hc
 have:c ∈ (s.toList.map Char.toNat):=by rw [PySem.Str.ofString_eq_toList] at hc;simpa using hc
 obtain ⟨d,_,rfl⟩:=List.mem_map.mp this
 exact zol d
theorem zhw {sep:PySem.Str} (hs:sOk sep):∀ {l:List PySem.Str},(∀ x ∈ l,sOk x)->sOk (PySem.Str.join sep l)
 | [],_=>fun c hc=>by cases hc
 | [x],h=>h x (by simp)
 | x::y::r,h=>zd3 (zd3 (h x (by simp)) hs) (zhw hs (l:=y::r) fun z hz=>h z (List.mem_cons_of_mem _ hz))
theorem z3t {q c:Nat} (hc:c<0x110000):∀ x ∈ reprChar q c,x<0x110000:=by
 have hex:∀ w:Nat,∀ x ∈ (List.replicate (w - ((Nat.toDigits 16 c).map Char.toNat).length) 48++(Nat.toDigits 16 c).map Char.toNat),x<0x110000:=by
  intro w x hx
  rcases List.mem_append.mp hx with hx | hx
  ·rw [(List.mem_replicate.mp hx).2];decide
  ·obtain ⟨d,_,rfl⟩:=List.mem_map.mp hx
   exact zol d
 have two:∀ a b:Nat,a<0x110000->b<0x110000->∀ x ∈ [a,b],x<0x110000:=by
  intro a b ha hb x hx
  rcases List.mem_cons.mp hx with rfl | hx
  ·exact ha
  ·rw [List.mem_singleton.mp hx];exact hb
 have tw:∀ a b w:Nat,a<0x110000->b<0x110000->∀ x ∈ [a,b]++(List.replicate (w - ((Nat.toDigits 16 c).map Char.toNat).length) 48++(Nat.toDigits 16 c).map Char.toNat),x<0x110000:=by
  intro a b w ha hb x hx
  rcases List.mem_append.mp hx with hx | hx
  ·exact two a b ha hb x hx
  ·exact hex w x hx
 intro x
 unfold reprChar
 dsimp only
 split
 ·exact two _ _ (by decide) hc x
 split
 ·exact two _ _ (by decide) (by decide) x
 split
 ·exact two _ _ (by decide) (by decide) x
 split
 ·exact two _ _ (by decide) (by decide) x
 split
 ·intro hx;rw [List.mem_singleton.mp hx];exact hc
 split
 ·exact tw _ _ 2 (by decide) (by decide) x
 split
 ·exact tw _ _ 4 (by decide) (by decide) x
 ·exact tw _ _ 8 (by decide) (by decide) x
theorem zu7 {x:PySem.Str} (h:sOk x):sOk (reprText x):=by
 have key:∀ (q:Nat) (l:List Nat) (acc:Array Nat),(∀ c ∈ l,c<0x110000)->(∀ c ∈ acc.toList,c<0x110000)->∀ c ∈ (l.foldl (fun out c=>out++(reprChar q c).toArray) acc).toList,c<0x110000:=by
  intro q l
  induction l with
  | nil=>intro acc _ ha;exact ha
  | cons c l ih =>
    intro acc hl ha
    refine ih _ (fun d hd=>hl d (List.mem_cons_of_mem _ hd)) fun d hd=>?_
    rw [Array.toList_append] at hd
    rcases List.mem_append.mp hd with hd | hd
    ·exact ha d hd
    ·exact z3t (hl c List.mem_cons_self) d (by simpa using hd)
 have hq:reprQuote x<0x110000:=by unfold reprQuote;split <;> decide
 intro c hc
 unfold reprText at hc
 rw [Array.toList_push,<- Array.foldl_toList] at hc
 rcases List.mem_append.mp hc with hc | hc
 ·have h0:∀ d ∈ (#[reprQuote x]:Array Nat).toList,d<0x110000:=fun d hd=>by
   have e:d=reprQuote x:=by simpa using hd
   rw [e]
   exact hq
  exact key _ _ _ h h0 c hc
 ·rw [List.mem_singleton.mp hc];exact hq
end
open PySem PySem.Spec
open PyProof.Rows hiding St
open L2
mutual
theorem zk4:∀ d:PyData,d.canLay0=true->sOk d.shown
 | .none,_=>by rw [PyData.shown_none];exact zc1 _
 | .bool b,_=>by rw [PyData.shown_bool];cases b <;> exact zc1 _
 | .int i,_=>by rw [PyData.shown_int];exact zc1 _
 | .str x,h=>by rw [PyData.shown_str];exact zu7 (strOk_iff.mp (by simpa [PyData.canLay0] using h))
 | .list xs,h=>by
   rw [PyData.shown_list]
   exact zd3 (zd3 (zc1 _) (zhw (zc1 _) (zd9 xs (by simpa [PyData.canLay0] using h)))) (zc1 _)
 | .tuple xs,h=>by
   rw [PyData.shown_tuple]
   exact zd3 (zd3 (zc1 _) (zhw (zc1 _) (zd9 xs (by simpa [PyData.canLay0] using h)))) (zc1 _)
 | .dict _,h=>by simp [PyData.canLay0] at h
theorem zd9:∀ xs:List PyData,PyData.canLayAll0 xs=true->∀ x ∈ PyData.shownAll xs,sOk x
 | [],_,_,hx=>by simp [PyData.shownAll] at hx
 | d::xs,h,x,hx=>by
   rw [PyData.canLayAll0,Bool.and_eq_true] at h
   rw [PyData.shownAll_cons] at hx
   rcases List.mem_cons.mp hx with e | hx
   ·rw [e];exact zk4 d h.1
   ·exact zd9 xs h.2 x hx
end
theorem zo4 {d:PyData} (h1:d.canLay0=true) (h2:d.showable=true) (h3:d.depth<=60) (h4:d.leavesShort 13=true) (h5:d.bulk<=2 ^ 20):∃ x,zg3 [d]=some (.o (.str x))/\PyData.strOk x=true:=by
 refine ⟨d.shown,?_,strOk_iff.mpr (zk4 d h1)⟩
 unfold zg3
 dsimp only
 rw [if_pos]
 rw [h2,PyData.hasDict_of_canLay d h1,decide_eq_true h3,decide_eq_true (PyData.shown_fits_bulk (B:=13) (by decide) (by decide) h4 h5)]
 rfl
theorem zdw {α:Type} {f:α->PyData}:∀ {l:List α},(∀ a ∈ l,(f a).canLay0=true)->PyData.canLayAll0 (l.map f)=true
 | [],_=>rfl
 | a::l,h=>by rw [List.map_cons,PyData.canLayAll0,h a List.mem_cons_self,zdw fun x hx=>h x (List.mem_cons_of_mem _ hx)];rfl
theorem zhg {α:Type} {f:α->PyData}:∀ {l:List α},(∀ a ∈ l,(f a).showable=true)->PyData.showableAll (l.map f)=true
 | [],_=>by simp [PyData.showableAll]
 | a::l,h=>by rw [List.map_cons,PyData.showableAll,h a List.mem_cons_self,zhg fun x hx=>h x (List.mem_cons_of_mem _ hx)];rfl
theorem zee {α:Type} {f:α->PyData} {n:Nat}:∀ {l:List α},(∀ a ∈ l,(f a).depth<=n)->PyData.depthAll (l.map f)<=n
 | [],_=>by simp [PyData.depthAll]
 | a::l,h=>by
   rw [List.map_cons,PyData.depthAll]
   exact Nat.max_le.mpr ⟨h a List.mem_cons_self,zee fun x hx=>h x (List.mem_cons_of_mem _ hx)⟩
theorem zf6 {α:Type} {f:α->PyData} {B:Nat}:∀ {l:List α},(∀ a ∈ l,(f a).leavesShort B=true)->PyData.leavesShortAll B (l.map f)=true
 | [],_=>by simp [PyData.leavesShortAll]
 | a::l,h=>by rw [List.map_cons,PyData.leavesShortAll,h a List.mem_cons_self,zf6 fun x hx=>h x (List.mem_cons_of_mem _ hx)];rfl
theorem zha {α:Type} {f:α->PyData} {n:Nat}:∀ {l:List α},(∀ a ∈ l,(f a).bulk<=n)->PyData.bulkAll (l.map f)<=l.length * (n+1)
 | [],_=>by simp [PyData.bulkAll]
 | a::l,h=>by
   rw [List.map_cons,PyData.bulkAll,List.length_cons,Nat.succ_mul]
   have:=h a List.mem_cons_self
   have:=zha (f:=f) (n:=n) fun x hx=>h x (List.mem_cons_of_mem a hx)
   lia
theorem zsf {x:Str} (h:PyData.strOk x=true) {B:Nat}:(PyData.str x).leavesShort B=true:=by
 have h:=strOk_iff.mp h
 rw [PyData.leavesShort,List.all_eq_true]
 intro c hc
 have:=h c hc
 exact decide_eq_true (by lia)
theorem zgh {ps:List Pc} (h:∀ p ∈ ps,LowP p):(zaf ps).canLay0=true:=zdw fun p hp=>zvb (h p hp)
theorem zhf (ps:List Pc):(zaf ps).depth<=2:=by
 show PyData.depthAll (ps.map encP)+1<=2
 have:=zee (f:=encP) (n:=1) (l:=ps) fun p _=>by simp [encP,PyData.depth,PyData.depthAll]
 lia
theorem zva {ps:List Pc} (h:∀ p ∈ ps,LowP p):okD (zaf ps)=true:=by
 unfold okD
 rw [zgh h]
 have:=zhf ps
 simp
 lia
theorem zoz {α:Type} [DecidableEq α] {f:α->PyData} (h:∀ a b,PyData.eqv (f a) (f b)=decide (a=b)):∀ (l m:List α),PyData.eqvAll (l.map f) (m.map f)=decide (l=m)
 | [],[]=>rfl
 | [],_::_=>rfl
 | _::_,[]=>rfl
 | a::l,b::m=>by
   show (PyData.eqv (f a) (f b) && PyData.eqvAll (l.map f) (m.map f))=_
   rw [h,zoz h]
   by_cases e:a=b
   ·subst e;by_cases e2:l=m
    ·subst e2;simp
    ·simp [e2]
   ·simp [e]
theorem zkv (a b:List Pc):PyData.eqv (zaf a) (zaf b)=decide (a=b):=zoz zu3 a b
theorem zsi {neg:Bool} {a b:List Pc} (ha:∀ p ∈ a,LowP p) (hb:∀ p ∈ b,LowP p):eqF neg (zaf a) (zaf b)=some (.o (.bool (if neg then !decide (a=b) else decide (a=b)))):=by
 unfold eqF
 rw [if_pos (by rw [zva ha,zgh hb];rfl),zkv]
theorem zl1 {neg:Bool} {a b:Bool}:eqF neg (.bool a) (.bool b)=some (.o (.bool (if neg then !(a == b) else a == b))):=by
 unfold eqF
 have e:(okD (PyData.bool a) && (PyData.bool b).canLay0)=true:=by simp [okD,PyData.canLay0,PyData.depth]
 rw [if_pos e]
 cases neg <;> cases a <;> cases b <;> rfl
section
variable {K : PySem.W.Frag} {O : Ob}
noncomputable def disS (m:Nat) (g:DS):DS:=fun Dd ρ=>g Dd ρ\/∃ ds,ρ[m]? = some (some (.own ds))/\g Dd (ρ.set m (some (.im (.list ds))))
theorem z0d {m:Nat} {t:TS} {g:DS} (h:SD K O t g):SD K O t (disS m g):=fun H₀ A σ H ρ D Dd r q P=>by
 rcases q with q | ⟨ds,e,q⟩
 ·exact h H₀ A σ H ρ D Dd r q P
 ·exact h H₀ _ σ H _ D Dd (r.disown e) q (P.frm (.setIm (.refl _ _)))
noncomputable def setS (n m:Nat):DS:=fun Dd ρ=>∃ d,ρ[m]? = some (some (.im d))/\Dd.nx (ρ.set n (some (.im d)))
theorem zxo {n m:Nat}:SD K O (tAsg (tVar m) (za9 n)) (setS n m):=fun H₀ A σ H ρ D Dd r q P=>by
 obtain ⟨d,e,q⟩:=q
 obtain ⟨v,hv,h⟩:=r.at_ m _ e
 exact ⟨v,hv,P.nx _ _ H _ (r.setIm h) (.setIm (.refl _ _)) q⟩
end
section
variable {ι κ : Type} {P : Program} {w : World} {K : PySem.W.Frag} {mg : Str → Option Value} {base : Heap} {k : Nat} {X : ι → Cx} {O : κ → Ob} {st : Stmt} {g : DS} {pos : Pos}
theorem zix (m:Nat) (h:S3 K X O st g):S3 K X O st (disS m g):=let ⟨t,p,d⟩:=h; ⟨t,p,fun j=>z0d (d j)⟩
theorem ztf (n m:Nat) {x y:Str} {px py:Pos} (hN:∀ i,(X i).N.Nodup:=by intro i;exact of_decide_eq_true (by kernel_rfl)) (hi:∀ i,(X i).N[n]? = some x:=by intro i;rfl) (hx:∀ i,Loc (X i).env.scope x:=by intro i;first | exact Or.inl rfl | exact Or.inr rfl)
 (hN2:∀ i,(X i).N[m]? = some y:=by intro i;rfl) (hv:∀ i,Vis (X i).env.scope y:=by intro i;first | exact Or.inl rfl | exact Or.inr (Or.inl rfl) | exact Or.inr (Or.inr rfl)) (hd:(y == ("__debug__" : Str))=false:=by decide) (hcd:(y == ("__classdict__" : Str))=false:=by decide)
 (hs:∀ i,swapsWith (.Name y py) (some (.Name x px)) pos.line (X i).env=pure false:=by intro i;rfl) (hf:∀ i,(X i).fn x=true\/(X i).env.scope.names.lookup x=some .local:=by intro i;first | exact .inl rfl | exact .inr rfl):S3 K X O (.Assign [.Name x px] (.Name y py) pos) (setS n m) :=
 ⟨_,fun i=>zb9 (hN i) (hi i) (hx i) (zak (hN2 i) (hv i) hd hcd) (hs i) (hf i),fun j=>zxo⟩
end
end L3
namespace L3
open PySem PySem.Spec
open PyProof.Rows hiding St
open L2
theorem zh1:fillsNumberSlot (.type "tuple") "mul" = pure false :=
 PySem.fillsNumberSlot_seq (id := "tuple.__mul__") (r:=some (.builtin "tuple.__rmul__")) F.slot_tuple_mul.lookup (by decide +kernel) F.slot_tuple_rmul.lookup (by decide +kernel)
theorem zn4:seqRepeat? (.type "tuple")=pure (some (.builtin "tuple.__mul__")):=by
 unfold seqRepeat?
 rw [PySem.seqSlot_of (T := "tuple") (name := "__mul__") (id := "tuple.__mul__") F.slot_tuple_mul.lookup (by decide +kernel),PySem.seqSlot_of (T := "tuple") (name := "__rmul__") (id := "tuple.__rmul__") F.slot_tuple_rmul.lookup (by decide +kernel)]
 rfl
theorem zjl (a:Int) (t:Tok) (l:Addr) (items:Array Value) (n:Nat) (dd:Option Addr) (sl:Array (Option Value)) :
 Meets (Builtin.«int.__rmul__» ⟨[.int a t,.ref l],[]⟩) (fun _ R s=>s.heap.get? l=some { cls := .type "tuple", dict:=dd,data := .seq items n,slots:=sl }/\R (.ok (.ret Value.notImplemented)) s) :=
 .of_wp fun prog w A R s h=>by obtain ⟨hp,g,d,tk,os⟩:=s;obtain ⟨hl,h⟩:=h;wp_walk;exact ⟨_,rfl,h⟩
theorem zj5 (l:Addr) (items:Array Value) (n:Nat) (dd:Option Addr) (sl:Array (Option Value)) (x:Int) (u:Tok) (hr:(decide (x < -2 ^ 63) || decide (x ≥ 2 ^ 63))=false) (h1:(items.isEmpty || x == 1)=true) :
 Meets (Builtin.«tuple.__mul__» ⟨[.ref l,.int x u],[]⟩) (fun _ R s=>s.heap.get? l=some { cls := .type "tuple", dict:=dd,data := .seq items n,slots:=sl }/\R (.ok (.ret (.ref l))) s) :=
 .of_wp fun prog w A R s h=>by obtain ⟨hp,g,d,tk,os⟩:=s;obtain ⟨hl,h⟩:=h;wp_walk;refine wpAny_ite_false (decide_eq_false (by rw [hr];exact Bool.false_ne_true)) ?_;wp_walk;exact ⟨_,rfl,h⟩
theorem zka (l:Addr) (items:Array Value) (n:Nat) (dd:Option Addr) (sl:Array (Option Value)) (x:Int) (u:Tok) (hr:(decide (x < -2 ^ 63) || decide (x ≥ 2 ^ 63))=false) (h1:¬ (items.isEmpty || x == 1)=true) (h2:(decide (x<=0) || items.isEmpty)=true) :
 Meets (Builtin.«tuple.__mul__» ⟨[.ref l,.int x u],[]⟩) (fun _ R s=>s.heap.get? l=some { cls := .type "tuple", dict:=dd,data := .seq items n,slots:=sl }/\R (.ok (.ret (.ref s.heap.objs.size))) { s with heap:=s.heap.push { cls:=Value.type "tuple", data:=Data.seq #[] },toks:=s.toks }) :=
 .of_wp fun prog w A R s h=>by obtain ⟨hp,g,d,tk,os⟩:=s;obtain ⟨hl,h⟩:=h;wp_walk;refine wpAny_ite_false (decide_eq_false (by rw [hr];exact Bool.false_ne_true)) ?_;wp_walk;exact ⟨_,rfl,h⟩
theorem zj7 (l:Addr) (items:Array Value) (n:Nat) (dd:Option Addr) (sl:Array (Option Value)) (x:Int) (u:Tok) (hr:(decide (x < -2 ^ 63) || decide (x ≥ 2 ^ 63))=false) (h1:¬ (items.isEmpty || x == 1)=true) (h2:¬ (decide (x<=0) || items.isEmpty)=true) (h3:¬ (items.size:Int) * x > (2 ^ 63 - 1) / 8) (h4:¬ Builtin.Tuple.tupleTooMany ((items.size:Int) * x)=true) (h5:(List.foldl (fun x1 x2=>x1++x2) #[] (List.replicate x.toNat items)).size<=sizeLine) :
 Meets (Builtin.«tuple.__mul__» ⟨[.ref l,.int x u],[]⟩) (fun _ R s=>s.heap.get? l=some { cls := .type "tuple", dict:=dd,data := .seq items n,slots:=sl }/\R (.ok (.ret (.ref s.heap.objs.size))) { s with heap:=s.heap.push { cls:=Value.type "tuple", data:=Data.seq (List.foldl (fun x1 x2=>x1++x2) #[] (List.replicate x.toNat items)) },toks:=s.toks }) :=
 .of_wp fun prog w A R s h=>by obtain ⟨hp,g,d,tk,os⟩:=s;obtain ⟨hl,h⟩:=h;wp_walk;refine wpAny_ite_false (decide_eq_false (by rw [hr];exact Bool.false_ne_true)) ?_;wp_walk;refine wpAny_ite_false (decide_eq_false h3) ?_;wp_walk;exact ⟨_,rfl,h⟩
section
variable {X : Cx}
noncomputable def zwn (K:PySem.W.Frag):R2:=fun x y H Q=>∃ a k xs,x = .ref a/\y = .int k/\SqT K H a xs/\-(2 ^ 63)<=k/\k<2 ^ 63/\xs.length * k.toNat<=sizeLine /\
 ((xs = []\/k=1)->Q (.ref a) H)/\(¬ (xs = []\/k=1)->∀ p,H p=none->Q (.ref p) (upd H p (.tup (List.replicate k.toNat xs).flatten)))
theorem zzw:OpR X (binaryOp .Mult) (zwn X.K):=by
 intro pins s σ H x y v u Q I rx ry h
 obtain ⟨a,k,xs,rfl,rfl,hS,h1,h2,hz,q1,q2⟩:=h
 cases rx
 obtain ⟨t,rfl⟩:=ry
 obtain ⟨its,r1,p1,_⟩:=I.tuple hS
 obtain ⟨⟨cls,dd,data,sl⟩,ho,hc,n,hd⟩:=id p1
 simp only at hc hd
 subst hc hd
 have hlen:=r1.length
 have hr:(decide (k < -2 ^ 63) || decide (k ≥ 2 ^ 63))=false:=by
  rw [decide_eq_false (by lia),decide_eq_false (by lia)];rfl
 have nil:its.toArray.isEmpty=true↔xs = []:=by
  rw [<- r1.nil_iff]
  simp
 have go:∀ {R:Value->Shared->Prop},wpAny (model X.prog X.w) X.A (call (.builtin "tuple.__mul__") [.ref a,.int k t]) R X.xe s->wpAny (model X.prog X.w) X.A (binaryOp .Mult (.ref a) (.int k t)) R X.xe s:=fun {R} hh =>
  wpAny_binaryOp_repeat_ref (T := "tuple") (U := "int") (by decide) ⟨_,ho,rfl⟩ (fun s'=>typeIs_int s' k t) zh1 F.fills_int_mul F.slot_int_rmul zn4 F.slot_int_index.lookup
   (call_meets F.slot_int_rmul (typeIs_int s k t) F.entry_int_rmul (F.args_int_rmul_2 _ _) (zjl k t a its.toArray n dd sl) ⟨ho,rfl,⟨_,ho,rfl⟩,hh⟩)
 by_cases hc:xs = []\/k=1
 ·refine go (call_meets F.slot_tuple_mul ⟨_,ho,rfl⟩ F.entry_tuple_mul (F.args_tuple_mul_2 _ _) (zj5 a its.toArray n dd sl k t hr ?_) ⟨ho,⟨.ref a,H,I,rfl,q1 hc⟩⟩)
  rcases hc with e | e
  ·rw [nil.mpr e];rfl
  ·rw [e];simp
 ·have hx:xs ≠ []:=fun e=>hc (.inl e)
  have hk:k ≠ 1:=fun e=>hc (.inr e)
  have hne:its.toArray.isEmpty=false:=by
   cases e:its.toArray.isEmpty with
   | false=>rfl
   | true=>exact absurd (nil.mp e) hx
  have hb:¬ (its.toArray.isEmpty || k == 1)=true:=by rw [hne];simp [hk]
  by_cases h0:k<=0
  ·refine go (call_meets F.slot_tuple_mul ⟨_,ho,rfl⟩ F.entry_tuple_mul (F.args_tuple_mul_2 _ _) (zka a its.toArray n dd sl k t hr hb (by rw [decide_eq_true h0];rfl)) ⟨ho,?_⟩)
   have e0:k.toNat=0:=by lia
   have q:=q2 hc s.heap.objs.size (I.hok.fresh (Nat.le_refl _))
   rw [e0] at q
   exact ⟨.ref s.heap.objs.size,_,I.laid (t':=s.toks) (o := .tup []) (fun b ob q=>Heap.get?_push_of_some _ q) (Nat.le_refl _) ⟨Nat.zero_le _,_,.nil,IsTup.new _ _⟩,rfl,q⟩
  ·have hsz:(its.toArray.size:Int) * k=((xs.length * k.toNat:Nat):Int):=by
    rw [List.size_toArray,<- hlen]
    rw [Int.natCast_mul]
    congr 1
    lia
   have hnew:List.foldl (fun x1 x2=>x1++x2) #[] (List.replicate k.toNat its.toArray)=(List.replicate k.toNat its).flatten.toArray:=by
    have:=zf5 its k.toNat []
    rw [List.nil_append] at this
    exact this
   have sz:=sizeLine_eq
   refine go (call_meets F.slot_tuple_mul ⟨_,ho,rfl⟩ F.entry_tuple_mul (F.args_tuple_mul_2 _ _) (zj7 a its.toArray n dd sl k t hr hb (by rw [hne,decide_eq_false h0];exact Bool.false_ne_true) (by rw [hsz];lia) (by rw [hsz];unfold Builtin.Tuple.tupleTooMany;rw [decide_eq_false (by lia)];exact Bool.false_ne_true) (by rw [hnew,List.size_toArray,ze0,<- hlen,Nat.mul_comm];exact hz)) ⟨ho,?_⟩)
   rw [hnew]
   exact ⟨.ref s.heap.objs.size,_,I.laid (t':=s.toks) (o := .tup (List.replicate k.toNat xs).flatten) (fun b ob q=>Heap.get?_push_of_some _ q) (Nat.le_refl _) ⟨by rw [ze0,Nat.mul_comm];exact hz,_,r1.rep k.toNat,IsTup.new _ _⟩,rfl,q2 hc _ (I.hok.fresh (Nat.le_refl _))⟩
noncomputable def zw6:R2:=fun x y H Q=>∃ i k,x = .str i/\y = .int k/\-(2 ^ 63)<=k/\k<2 ^ 63/\i.length * k.toNat<=sizeLine/\Q (.str (tx (List.replicate k.toNat i.cps.toList).flatten)) H
theorem zi5 (w:List Nat):∀ (k:Nat) (acc:List Nat),List.foldl (fun x1 x2=>x1++x2) acc.toArray (List.replicate k w.toArray)=(acc++(List.replicate k w).flatten).toArray
 | 0,acc=>by simp
 | k+1,acc=>by
   rw [List.replicate_succ,List.foldl_cons,List.append_toArray,zi5 w k (acc++w),List.replicate_succ,List.flatten_cons,List.append_assoc]
theorem op_repS:OpR X (binaryOp .Mult) zw6:=by
 intro pins s σ H x y v u Q I rx ry h
 obtain ⟨i,k,rfl,rfl,h1,h2,hz,q⟩:=h
 obtain ⟨t,rfl⟩:=rx
 obtain ⟨t2,rfl⟩:=ry
 have sz:=sizeLine_eq
 have hr:(decide (k < -(2 ^ 63:Int)) || decide (k ≥ 2 ^ 63))=false:=by
  rw [decide_eq_false (by lia),decide_eq_false (by lia)];rfl
 have hlen:i.length=i.cps.toList.length:=by simp [Str.length]
 have hnew:(⟨(List.replicate k.toNat i.cps).foldl (· ++ ·) #[]⟩:Str)=tx (List.replicate k.toNat i.cps.toList).flatten:=by
  have:=zi5 i.cps.toList k.toNat []
  rw [List.nil_append] at this
  show Str.mk _=Str.mk _
  rw [<- this]
 refine PySem.P.mul_str hr (fun n1 nn=>?_) (fun n1 nn=>?_) ?_
 ·have hk:0<k.toNat:=by lia
  have h3:i.length<=sizeLine:=Nat.le_trans (Nat.le_mul_of_pos_right _ hk) hz
  intro hh
  have h4:(i.length:Int) * k<=16777216:=by
   have:((i.length * k.toNat:Nat):Int)<=16777216:=by lia
   rwa [Int.natCast_mul,show ((k.toNat:Nat):Int)=k by lia] at this
  have h5:=Int.lt_of_lt_of_le (Int.lt_mul_of_ediv_lt (by lia:(0:Int)<k) hh) h4
  lia
 ·unfold Builtin.Str.tooLong
  exact decide_eq_false (by lia)
 ·by_cases c1:k<1
  ·rw [if_pos c1]
   have e0:k.toNat=0:=by lia
   rw [e0] at q
   exact ⟨by decide,.str _,H,I.tok _,⟨_,rfl⟩,q⟩
  ·rw [if_neg c1]
   by_cases c2:(k == 1 || i.length == 0)=true
   ·rw [if_pos c2]
    have e1:tx (List.replicate k.toNat i.cps.toList).flatten=i:=by
     rcases (Bool.or_eq_true _ _).mp c2 with e | e
     ·have:k=1:=by simpa using e
      subst this
      show tx ([i.cps.toList]:List (List Nat)).flatten=i
      simp [tx]
     ·have e:i.length=0:=by simpa using e
      have e2:i.cps.toList = []:=List.eq_nil_of_length_eq_zero (by lia)
      rw [e2]
      have:(List.replicate k.toNat ([]:List Nat)).flatten = []:=by simp
      rw [this]
      have e3:i.cps = #[]:=Array.toList_inj.mp e2
      cases i
      simp_all [tx]
    rw [e1] at q
    exact ⟨.str i,H,I,⟨_,rfl⟩,q⟩
   ·rw [if_neg c2]
    refine ⟨?_,.str _,H,I.tok _,⟨_,rfl⟩,?_⟩
    ·show Str.length _<=sizeLine
     rw [hnew,zci,ze0,Nat.mul_comm,<- hlen]
     exact hz
    ·show Q (.str _) H
     rw [hnew]
     exact q
end
noncomputable def zw8 (K:PySem.W.Frag):R2:=fun x y H Q=>rI CMul (fun i j => .int (i * j)) x y H Q\/zw6 x y H Q\/rRep x y H Q\/zwn K x y H Q
theorem zyh {X:Cx}:OpR X (binaryOp .Mult) (zw8 X.K):=op_mul.or (op_repS.or (op_rep.or zzw))
noncomputable def mulD:PyData->PyData->(R->Prop)->Prop:=fun d e Q=>∃ k:Int,e = .int k/\-(2 ^ 63)<=k/\k<2 ^ 63/\match d with
 | .int i=>CMul i k/\Q (.o (.int (i * k)))
 | .str x=>x.length * k.toNat<=sizeLine/\Q (.o (.str (tx (List.replicate k.toNat x.cps.toList).flatten)))
 | .list ds=>ds.length * k.toNat<=sizeLine/\Q (.n (List.replicate k.toNat ds).flatten)
 | .tuple ds=>ds.length * k.toNat<=sizeLine/\Q (.o (.tuple (List.replicate k.toNat ds).flatten))
 | _=>False
section
variable {K : PySem.W.Frag} {O : Ob} {F : Addr → Prop} {H : Hp}
theorem zf3 {xs:List V} {ds:List PyData} (h:IsAll K F H xs ds):∀ k:Nat,IsAll K F H (List.replicate k xs).flatten (List.replicate k ds).flatten
 | 0 => .nil
 | k+1=>by
   rw [List.replicate_succ,List.replicate_succ,List.flatten_cons,List.flatten_cons]
   exact h.append (zf3 h k)
theorem zvt:OpD K O (zw8 K) mulD:=fun H x y d e Q Qd ok p ix iy ⟨k,he,h1,h2,q⟩ kk=>by
 subst he
 cases iy
 cases ix with
 | int i=>exact .inl ⟨_,_,rfl,rfl,q.1,kk _ H (.o _) (.refl _ _) (Is.int _) q.2⟩
 | str x=>exact .inr (.inl ⟨_,_,rfl,rfl,h1,h2,q.1,kk _ H (.o _) (.refl _ _) (Is.str _) q.2⟩)
 | list f1 h3 s1 =>
   refine .inr (.inr (.inl ⟨_,_,_,rfl,rfl,h3,h1,h2,by rw [s1.length];exact q.1,fun p' hp=>?_⟩))
   obtain ⟨a1,a2⟩:=zcp ok hp (zf3 s1 k.toNat)
   exact kk _ _ _ a1 a2 q.2
 | tuple h3 s1 =>
   refine .inr (.inr (.inr ⟨_,_,_,rfl,rfl,h3,h1,h2,by rw [s1.length];exact q.1,fun hc=>?_,fun hc p' hp=>?_⟩))
   ·rcases hc with e | e
    ·subst e
     cases s1
     have e2:(List.replicate k.toNat ([]:List PyData)).flatten = []:=by simp
     have q2:=q.2
     rw [e2] at q2
     exact kk _ H (.o _) (.refl _ _) (Is.tuple h3 .nil) q2
    ·subst e
     have q2:=q.2
     have e2:∀ ds:List PyData,(List.replicate (1:Int).toNat ds).flatten=ds:=fun ds=>by simp
     rw [e2] at q2
     exact kk _ H (.o _) (.refl _ _) (Is.tuple h3 s1) q2
   ·obtain ⟨a1,a2⟩:=zgv ok hp (zf3 s1 k.toNat)
    exact kk _ _ _ a1 a2 q.2
 | _=>exact q.elim
end
theorem zn1 {ι κ:Type} {P:Program} {w:World} {K:PySem.W.Frag} {mg:Str->Option Value} {base:Heap} {k:Nat} {X:ι->Cx} {O:κ->Ob} {a b:Expr} {fa fb:DE} {pos:Pos} (C:Ctx3 P w K mg base k X) (ha:E3 K X O a fa) (hb:E3 K X O b fb):E3 K X O (.BinOp a .Mult b pos) (opDE mulD fa fb):=e_op (fun i=>by have h:=zyh (X:=X i);rw [C.hK] at h;exact h) (fun _=>zvt) ha hb
theorem zvp {α:Type} {enc:α->PyData} {g:DG} {fe:DE} {ρ:DSt} {Q:List PyData->Prop} {as:List α} {e:α->PyData} {h:Nat} (step:∀ a ∈ as,∀ P:R->Prop,(∀ r,r.d=e a->P r)->g (enc a) (List.replicate h none++ρ) fun ρ2=>if true=true then fe ρ2 P else False) (mg:∀ d ρ (P P':DSt->Prop),(∀ ρ,P ρ->P' ρ)->g d ρ P->g d ρ P') (hz:as.length<=sizeLine) (q:Q (as.map e)) :
 zaz h g yesD fe ρ Q (as.map enc) []:=by
 have key:∀ (l:List α) (acc:List PyData),(∀ a ∈ l,a ∈ as)->acc.length+l.length<=sizeLine->Q (acc++l.map e)->zaz h g yesD fe ρ Q (l.map enc) acc:=by
  intro l
  induction l with
  | nil=>intro acc _ _ q;show Q acc;simpa using q
  | cons a l ih =>
    intro acc hs hz q
    rw [List.length_cons] at hz
    refine mg _ _ _ _ (fun ρ2 z=>?_) (step a (hs a List.mem_cons_self) (fun r=>acc.length<sizeLine/\zaz h g yesD fe ρ Q (l.map enc) (acc ++ [r.d])) fun r hr=>⟨by lia,?_⟩)
    ·rw [if_pos rfl] at z
     exact iteT (B:=zaz h g yesD fe ρ Q (l.map enc) acc) z
    ·rw [hr]
     exact ih (acc ++ [e a]) (fun x hx=>hs x (List.mem_cons_of_mem _ hx)) (by rw [List.length_append];simp;lia) (by simpa using q)
 exact key as [] (fun _ h=>h) (by simpa using hz) (by simpa using q)
theorem zy6 {is:List Nat}:∀ d ρ (P P':DSt->Prop),(∀ ρ,P ρ->P' ρ)->gT is d ρ P->gT is d ρ P':=by
 have key:∀ (is:List Nat) (ds:List PyData) ρ (P P':DSt->Prop),(∀ ρ,P ρ->P' ρ)->gTD is ds ρ P->gTD is ds ρ P':=by
  intro is
  induction is with
  | nil=>intro ds ρ P P' h z;cases ds with
    | nil=>exact h _ z
    | cons _ _=>exact z.elim
  | cons i is ih=>intro ds ρ P P' h z;cases ds with
    | nil=>exact z.elim
    | cons d ds=>exact ih ds _ P P' h z
 exact fun d ρ P P' h ⟨ds,e,z⟩=>⟨ds,e,key _ _ _ _ _ h z⟩
theorem zin:∀ (l:List (List Nat)) (acc:Array Nat),(l.map tx).foldl (fun acc p=>acc++(Str.ofString "").cps++p.cps) acc=acc++l.flatten.toArray
 | [],acc=>by simp
 | c::r,acc=>by
   rw [List.map_cons,List.foldl_cons,zin r]
   have e:(Str.ofString "").cps = #[]:=by decide +kernel
   rw [e]
   apply Array.toList_inj.mp
   simp [tx]
theorem zxz (w:List (List Nat)):Txt.join "" (w.map tx)=tx w.flatten:=by
 cases w with
 | nil=>decide +kernel
 | cons c r =>
   show Builtin.Str.glued (Str.ofString "") (tx c::r.map tx)=tx (c::r).flatten
   unfold Builtin.Str.glued
   show (⟨(r.map tx).foldl _ (tx c).cps⟩:Str)=_
   rw [zin]
   unfold tx
   congr 1
   apply Array.toList_inj.mp
   simp
theorem z2q (w:List (List Nat)):((w.map tx).map (·.length)).sum=w.flatten.length:=by
 induction w with
 | nil=>rfl
 | cons c r ih=>rw [List.map_cons,List.map_cons,List.sum_cons,ih,zci,List.flatten_cons,List.length_append]
theorem zpt (ws:List (List Nat)) (hl:ws.flatten.length<=16777216):∃ ys:List Str,PyData.list (ws.map fun v => .str (tx v)) = .list (ys.map .str)/\(ys.map (·.length)).sum+ys.length * (Str.ofString "").length<=16777216/\Txt.join "" ys=tx ws.flatten:=by
 refine ⟨ws.map tx,by rw [List.map_map];rfl,?_,zxz ws⟩
 have e0:(Str.ofString "").length=0:=by decide +kernel
 rw [z2q,e0]
 lia
end L3
namespace L3
open PySem PySem.Spec
open PyProof.Rows hiding St
open L2
noncomputable def truB:PyData->Option Bool
 | .none=>some false
 | .bool b=>some b
 | .int i=>some (i != 0)
 | .str x=>if x.length<=sizeLine then some ((x.length:Int) != 0) else none
 | .list ds=>some (!ds.isEmpty)
 | .tuple ds=>some (!ds.isEmpty)
 | _=>none
noncomputable def truD (f:DE):DT:=fun ρ Q=>f ρ fun r=>∃ b,truB r.d=some b/\Q b
section
variable {K : PySem.W.Frag} {O : Ob}
theorem zhh {F:Addr->Prop} {H:Hp} {xs:List V} {ds:List PyData} (h:IsAll K F H xs ds):xs.isEmpty=ds.isEmpty:=by
 cases h <;> rfl
theorem zz7 {t:TE} {f:DE} (h:ED K O t f):TD K O (fun σ H Q=>t σ H fun x H'=>∃ k,TruV K x H' k/\Q k H') (truD f):=fun σ H ρ Q Qd S hf k=>by
 refine h σ H ρ _ _ S hf fun v H1 r s1 o1 ⟨b,e,q⟩=>?_
 have iv:=o1.is S.ok S.p
 refine ⟨b,?_,k b H1 s1 q⟩
 generalize r.d=d at iv e
 cases iv with
 | none=>cases e;rfl
 | bool b=>cases e;rfl
 | int i=>cases e;rfl
 | str x =>
   have e:(if x.length<=sizeLine then some ((x.length:Int) != 0) else none)=some b:=e
   by_cases hl:x.length<=sizeLine
   ·rw [if_pos hl] at e
    cases e
    exact ⟨hl,rfl⟩
   ·rw [if_neg hl] at e
    cases e
 | list f1 h1 s1=>cases e;exact .inl ⟨_,.of h1,by rw [zhh s1]⟩
 | tuple h1 s1=>cases e;exact .inr (.inl ⟨_,h1,by rw [zhh s1]⟩)
noncomputable def popS (i:Nat):DS:=fun Dd ρ=>∃ ds,ρ[i]? = some (some (.own ds))/\ds ≠ []/\Dd.nx (ρ.set i (some (.own ds.dropLast)))
theorem zew {F:Addr->Prop} {H:Hp}:∀ {xs:List V} {ds:List PyData},IsAll K F H xs ds->IsAll K F H xs.dropLast ds.dropLast
 | _,_,.nil => .nil
 | _,_,.cons h .nil => .nil
 | _,_,.cons h (.cons h2 h3) => .cons h (zew (.cons h2 h3))
theorem z1c {i:Nat}:SD K O (zep (tBM0 K "list" rPop (tVar i))) (popS i):=fun H₀ A σ H ρ D Dd r q P=>by
 obtain ⟨ds,e,hne,q⟩:=q
 obtain ⟨v,hv,a,xs,rfl,ha,hl,hs⟩:=r.at_ i _ e
 refine ⟨_,hv,.inl ⟨rfl,xs,.of hl⟩,?_⟩
 have hx:xs.length - 1<xs.length:=by
  have:=hs.length
  have:0<ds.length:=List.length_pos_iff.mpr hne
  lia
 refine ⟨a,xs,xs[xs.length - 1],rfl,rfl,hl,List.getElem?_eq_getElem hx,?_⟩
 exact P.nx A σ _ _ (r.change e hv ha (zew hs)) (.change ha) q
end
section
variable {ι κ : Type} {P : Program} {w : World} {K : PySem.W.Frag} {mg : Str → Option Value} {base : Heap} {k : Nat} {X : ι → Cx} {O : κ → Ob} {a b : Expr} {fa : DE} {pos p : Pos} {ga : DA}
theorem zql (C:Ctx3 P w K mg base k X) (ha:E3 K X O a fa) (he:∀ i whole,isTrue a (X i).env whole=(do let v <- whole;standAt a.pos;holding [v] (truthy v)):=by intro _ _;rfl):T3 K X O a (truD fa):=let ⟨_,q,d⟩:=ha;
 ⟨_,fun i=>by have h:=zvw (X:=X i) (q i) (he i);rw [C.hK] at h;exact h,fun j=>zz7 (d j)⟩
theorem zxy {X:Cx}:MtR X "list.pop" rPop:=fun pins s σ H x xs v us Q I rx rv h=>z1d pins s σ H x xs v us Q I rx rv h
theorem z3v (n:Nat) {x:Str} {px apos cpos:Pos} (C:Ctx3 P w K mg base k X) (hN:∀ i,(X i).N[n]? = some x:=by intro i;rfl) (hv:∀ i,Vis (X i).env.scope x:=by intro i;first | exact Or.inl rfl | exact Or.inr (Or.inl rfl) | exact Or.inr (Or.inr rfl)) (hd:(x == ("__debug__" : Str))=false:=by decide) (hcd:(x == ("__classdict__" : Str))=false:=by decide)
 (hbase:∀ i,attributeBase (.Name x px) "pop" (X i).env (eval (.Name x px) (X i).env)=eval (.Name x px) (X i).env:=by intro i;rfl) (hline:(apos.endLine == cpos.line)=true:=by rfl) (hsw:∀ i,swapsWith (.Call (.Attribute (.Name x px) "pop" apos) [] [] cpos) none pos.line (X i).env=pure false:=by intro i;rfl) :
 S3 K X O (.Expr (.Call (.Attribute (.Name x px) "pop" apos) [] [] cpos) pos) (popS n) :=
 ⟨zep (tBM0 K "list" rPop (tVar n)),fun i=>by
  have h:=z0b (apos:=apos) (cpos:=cpos) PySem.F.plainAttrs_list PySem.F.slot_list_pop PySem.F.type_list_pop (zxy (X:=X i)) (zak (pos:=px) (hN i) (hv i) hd hcd) (hbase i) hline
  rw [C.hK] at h
  exact zgu h (hsw i),fun j=>z1c⟩
end
section
variable {K : PySem.W.Frag} {O : Ob}
noncomputable def extS (i:Nat) (f:DE):DS:=fun Dd ρ=>∃ ds,ρ[i]? = some (some (.own ds))/\f ρ fun r=>∃ es,r.d = .list es/\flats es=true/\ds.length+es.length<=sizeLine/\Dd.nx (ρ.set i (some (.own (ds++es))))
theorem zs0 {i:Nat} {t:TE} {f:DE} (h:ED K O t f):SD K O (zep (tBM K "list" zgm (tVar i) (zav t tNil))) (extS i f):=fun H₀ A σ H ρ D Dd r q P=>by
 obtain ⟨ds,e,q⟩:=q
 obtain ⟨v,hv,a,xs,rfl,ha,hl,hs⟩:=r.at_ i _ e
 refine ⟨_,hv,?_⟩
 refine ⟨.inl ⟨rfl,xs,.of hl⟩,?_⟩
 refine h σ H ρ _ _ r.seen q fun w H1 x s1 o1 ⟨es,ed,fl,hz,q1⟩=>?_
 have r1:=r.stp s1
 obtain ⟨v1,hv1,a1,xs1,e1,ha1,hl1,hs1⟩:=r1.at_ i _ e
 rw [hv] at hv1
 cases hv1
 cases e1
 have iw:=o1.is r.ok r.p
 rw [ed] at iw
 cases iw with
 | list f1 h1 s2 =>
   refine ⟨a,_,xs1,_,rfl,rfl,hl1,h1,by rw [hs1.length,s2.length];exact hz,?_⟩
   exact P.nx A σ _ _ (r1.change e hv ha (hs1.append (IsAll.flats (TupStay.refl H1) s2 fl))) ((Frm.stp s1).trans (.change ha)) q1
end
section
variable {ι κ : Type} {P : Program} {w : World} {K : PySem.W.Frag} {mg : Str → Option Value} {base : Heap} {k : Nat} {X : ι → Cx} {O : κ → Ob} {a b : Expr} {fa fb : DE} {pos p : Pos} {ga : DA}
theorem zqb {X:Cx}:MtR X "list.extend" zgm:=fun pins s σ H x xs v us Q I rx rv h=>zsq pins s σ H x xs v us Q I rx rv h
theorem z4j (n:Nat) {x:Str} {px apos cpos:Pos} (C:Ctx3 P w K mg base k X) (hb:E3 K X O b fb) (hN:∀ i,(X i).N[n]? = some x:=by intro i;rfl) (hv:∀ i,Vis (X i).env.scope x:=by intro i;first | exact Or.inl rfl | exact Or.inr (Or.inl rfl) | exact Or.inr (Or.inr rfl)) (hd:(x == ("__debug__" : Str))=false:=by decide) (hcd:(x == ("__classdict__" : Str))=false:=by decide)
 (hbase:∀ i,attributeBase (.Name x px) "extend" (X i).env (eval (.Name x px) (X i).env)=eval (.Name x px) (X i).env:=by intro i;rfl)
 (hfew:∀ i,((backTo cpos (starEach [b] (X i).env)).all (fun x=>!x.1) && (backToKw cpos (keywordEach [] (X i).env)).all (fun x=>x.1.isSome) && decide (([b]:List Expr).length+([]:List Keyword).length+(if ([]:List Keyword).isEmpty then 0 else 1)<30))=true:=by intro i;rfl)
 (hline:(apos.endLine == cpos.line)=true:=by rfl) (hs:∀ i,starEach [b] (X i).env = [(false,eval b (X i).env)]:=by intro i;rfl) (hsw:∀ i,swapsWith (.Call (.Attribute (.Name x px) "extend" apos) [b] [] cpos) none pos.line (X i).env=pure false:=by intro i;rfl) :
 S3 K X O (.Expr (.Call (.Attribute (.Name x px) "extend" apos) [b] [] cpos) pos) (extS n fb):=let ⟨_,p2,d2⟩:=hb;
 ⟨zep (tBM K "list" zgm (tVar n) (zav _ tNil)),fun i=>by
  have h:=ze9 (apos:=apos) (cpos:=cpos) PySem.F.plainAttrs_list PySem.F.slot_list_extend PySem.F.type_list_extend (zqb (X:=X i)) (zak (pos:=px) (hN i) (hv i) hd hcd) (zas (p2 i) za6 (hs i)) (hbase i) (hfew i) hline (hs i)
  rw [C.hK] at h
  exact zgu h (hsw i),fun j=>zs0 (d2 j)⟩
end
end L3
namespace L3
open PySem PySem.Spec
open PyProof.Rows hiding St
open L2
noncomputable abbrev tS (w:List Nat):PyData := .str (tx w)
end L3
namespace L3
open PySem PySem.Spec
open PyProof.Rows hiding St
open L2
mutual
noncomputable def solid:PyData->Bool
 | .none=>true
 | .int _=>true
 | .str _=>true
 | .tuple ds=>solids ds
 | _=>false
noncomputable def solids:List PyData->Bool
 | []=>true
 | d::ds=>solid d && solids ds
end
mutual
theorem eqv_solid:∀ d e:PyData,solid d=true->solid e=true->(PyData.eqv d e=true↔d=e)
 | .none,e,_,h=>by cases e <;> simp [PyData.eqv,solid] at *
 | .int i,e,_,h=>by cases e <;> simp [PyData.eqv,solid] at *
 | .str x,e,_,h=>by cases e <;> simp [PyData.eqv,solid] at *
 | .tuple ds,e,h0,h=>by
   cases e with
   | tuple es =>
     have:=zi6 ds es (by simpa [solid] using h0) (by simpa [solid] using h)
     simp only [PyData.eqv]
     rw [this]
     exact ⟨fun z=>by rw [z],fun z=>by cases z;rfl⟩
   | none=>simp [PyData.eqv]
   | int _=>simp [PyData.eqv]
   | str _=>simp [PyData.eqv]
   | bool _=>simp [solid] at h
   | list _=>simp [solid] at h
   | dict _=>simp [solid] at h
 | .bool _,_,h,_=>by simp [solid] at h
 | .list _,_,h,_=>by simp [solid] at h
 | .dict _,_,h,_=>by simp [solid] at h
theorem zi6:∀ ds es:List PyData,solids ds=true->solids es=true->(PyData.eqvAll ds es=true↔ds=es)
 | [],[],_,_=>by simp [PyData.eqvAll]
 | [],_::_,_,_=>by simp [PyData.eqvAll]
 | _::_,[],_,_=>by simp [PyData.eqvAll]
 | d::ds,e::es,h,h'=>by
   simp only [solids,Bool.and_eq_true] at h h'
   simp only [PyData.eqvAll,Bool.and_eq_true]
   rw [eqv_solid d e h.1 h'.1,zi6 ds es h.2 h'.2]
   simp
end
structure Nice (n b:Nat) (d:PyData):Prop where
 lay:d.canLay0=true
 sh:d.showable=true
 sho:d.leavesShort 13=true
 dep:d.depth<=n
 bul:d.bulk<=b
 sol:solid d=true
theorem Nice.more {n b n' b':Nat} {d:PyData} (h:Nice n b d) (hn:n<=n') (hb:b<=b'):Nice n' b' d:=⟨h.lay,h.sh,h.sho,Nat.le_trans h.dep hn,Nat.le_trans h.bul hb,h.sol⟩
theorem zvc:Nice 0 0 .none:=⟨rfl,by simp [PyData.showable],by simp [PyData.leavesShort],Nat.le_refl _,Nat.le_refl _,rfl⟩
theorem zhn {x:Str} {b:Nat} (h:PyData.strOk x=true) (hb:x.length<=b):Nice 0 b (.str x):=⟨h,by simp [PyData.showable],zsf h,Nat.le_refl _,hb,rfl⟩
theorem zh5 {α:Type} {f:α->PyData}:∀ {l:List α},(∀ a ∈ l,solid (f a)=true)->solids (l.map f)=true
 | [],_=>rfl
 | a::l,h=>by rw [List.map_cons,solids,h a List.mem_cons_self,zh5 fun x hx=>h x (List.mem_cons_of_mem _ hx)];rfl
theorem zm0 {α:Type} {f:α->PyData} {l:List α} {n b m:Nat} (h:∀ a ∈ l,Nice n b (f a)) (hl:l.length<=m):Nice (n+1) (m * (b+1)) (.tuple (l.map f)):=by
 refine ⟨zdw fun a ha=>(h a ha).lay,?_,?_,?_,?_,?_⟩
 ·rw [PyData.showable];exact zhg fun a ha=>(h a ha).sh
 ·rw [PyData.leavesShort];exact zf6 fun a ha=>(h a ha).sho
 ·rw [PyData.depth]
  have:=zee (f:=f) (n:=n) (l:=l) fun a ha=>(h a ha).dep
  lia
 ·rw [PyData.bulk]
  have:=zha (f:=f) (n:=b) (l:=l) fun a ha=>(h a ha).bul
  exact Nat.le_trans this (Nat.mul_le_mul_right _ hl)
 ·rw [solid];exact zh5 fun a ha=>(h a ha).sol
theorem zu1:Nice 1 0 (.tuple []):=⟨rfl,by simp [PyData.showable,PyData.showableAll],by simp [PyData.leavesShort,PyData.leavesShortAll],by simp [PyData.depth,PyData.depthAll],Nat.le_refl _,rfl⟩
theorem zkh {n b b':Nat} {d:PyData} {ds:List PyData} (h:Nice n b d) (h':Nice (n+1) b' (.tuple ds)):Nice (n+1) (b+1+b') (.tuple (d::ds)):=by
 obtain ⟨a1,a2,a3,a4,a5,a6⟩:=h
 obtain ⟨b1,b2,b3,b4,b5,b6⟩:=h'
 simp only [PyData.canLay0,PyData.showable,PyData.leavesShort,PyData.depth,PyData.bulk,solid] at b1 b2 b3 b4 b5 b6
 refine ⟨?_,?_,?_,?_,?_,?_⟩
 ·simp only [PyData.canLay0,PyData.canLayAll0,a1,b1];rfl
 ·simp only [PyData.showable,PyData.showableAll,a2,b2];rfl
 ·simp only [PyData.leavesShort,PyData.leavesShortAll,a3,b3];rfl
 ·simp only [PyData.depth,PyData.depthAll];lia
 ·simp only [PyData.bulk,PyData.bulkAll];lia
 ·simp only [solid,solids,a6,b6];rfl
theorem Nice.okD {n b:Nat} {d:PyData} (h:Nice n b d) (hn:n<=60:=by decide):L3.okD d=true:=by
 unfold L3.okD
 rw [h.lay]
 have:=h.dep
 simp
 lia
theorem zyb {n b n' b':Nat} {neg:Bool} {d e:PyData} (h:Nice n b d) (h':Nice n' b' e) (hn:n<=60:=by decide) {q:Bool} (hq:q=true↔d=e):eqF neg d e=some (.o (.bool (if neg then !q else q))):=by
 unfold eqF
 rw [if_pos (by rw [h.okD hn,h'.lay];rfl)]
 have e1:PyData.eqv d e=q:=by
  have:=(eqv_solid d e h.sol h'.sol).trans hq.symm
  cases h1:PyData.eqv d e <;> cases q <;> simp_all
 rw [e1]
theorem zsx {α:Type} [DecidableEq α] {enc:α->PyData} {n b:Nat} {neg:Bool} {x y:α} (inj:enc x=enc y->x=y) (hx:Nice n b (enc x)) (hy:Nice n b (enc y)) (hn:n<=60:=by decide):eqF neg (enc x) (enc y)=some (.o (.bool (if neg then !decide (x=y) else decide (x=y)))) :=
 zyb hx hy hn (by rw [decide_eq_true_eq];exact ⟨fun z=>by rw [z],inj⟩)
theorem zyv {ds:List PyData} {i:Nat} {d:PyData} (h:ds[i]? = some d):idxF (.list ds) (.int (i:Nat))=some (.o d):=by
 show (atI ds _).map R.o=_
 rw [zgn (v:=d) h]
 rfl
theorem zpr {ds:List PyData} {i:Nat} {d:PyData} (h:ds[i]? = some d):idxF (.tuple ds) (.int (i:Nat))=some (.o d):=by
 show (atI ds _).map R.o=_
 rw [zgn (v:=d) h]
 rfl
theorem zsz {p:Pc} (h:WfP p):Nice 1 107 (encP p):=by
 have h1:Nice 0 5 (.str (zc4 p.1)):=zhn (zbn p.1) (by cases p.1 <;> decide +kernel)
 have h2:Nice 0 100 (.str (tx p.2)):=zhn (zfr h.low) (by rw [zci];exact h.len)
 exact (zkh h1 (zkh h2 zu1)).more (by lia) (by lia)
theorem zp8 {ps:List Pc} (h:WfPr ps):Nice 2 10800 (zaf ps):=(zm0 (fun p hp=>zsz (h.all p hp)) h.len).more (by lia) (by lia)
theorem zcv {es:List (List Pc)} (h:∀ pr ∈ es,WfPr pr) {m:Nat} (hl:es.length<=m):Nice 3 (m * 10801) (encE es):=zm0 (fun p hp=>zp8 (h p hp)) hl
end L3
namespace L6
structure WO {α:Type} (blt:α->α->Bool):Prop where
 irr:∀ a,blt a a=false
 tr:∀ a b c,blt a b=true->blt b c=true->blt a c=true
 neg:∀ a b c,blt a c=true->blt a b=true\/blt b c=true
section
variable {α : Type} {blt : α → α → Bool} {k : Nat → α}
noncomputable def Rk (blt:α->α->Bool) (k:Nat->α) (a b:Nat):Prop:=blt (k a) (k b)=true\/(blt (k b) (k a)=false/\a<b)
theorem Rk.trans (W:WO blt) {a b c:Nat} (h:Rk blt k a b) (h':Rk blt k b c):Rk blt k a c:=by
 rcases h with h | ⟨h,l⟩ <;> rcases h' with h' | ⟨h',l'⟩
 ·exact .inl (W.tr _ _ _ h h')
 ·rcases W.neg _ (k c) _ h with z | z
  ·exact .inl z
  ·rw [h'] at z;cases z
 ·rcases W.neg _ (k a) _ h' with z | z
  ·rw [h] at z;cases z
  ·exact .inl z
 ·refine .inr ⟨?_,by lia⟩
  cases e:blt (k c) (k a) with
  | false=>rfl
  | true =>
    rcases W.neg _ (k b) _ e with z | z
    ·rw [h'] at z;cases z
    ·rw [h] at z;cases z
theorem Rk.le (W:WO blt) {a b:Nat} (h:Rk blt k a b):blt (k b) (k a)=false:=by
 rcases h with h | ⟨h,_⟩
 ·cases e:blt (k b) (k a) with
  | false=>rfl
  | true=>have:=W.tr _ _ _ h e;rw [W.irr] at this;cases this
 ·exact h
theorem zfk (W:WO blt) {x y z:α} (h:blt x y=true) (h':blt z y=false):blt x z=true:=by
 rcases W.neg _ z _ h with e | e
 ·exact e
 ·rw [h'] at e;cases e
theorem zwq (W:WO blt) {x y z:α} (h:blt y x=false) (h':blt y z=true):blt x z=true:=by
 rcases W.neg _ x _ h' with e | e
 ·rw [h] at e;cases e
 ·exact e
theorem ziv (W:WO blt) {x y z:α} (h:blt y x=false) (h':blt z y=false):blt z x=false:=by
 cases e:blt z x with
 | false=>rfl
 | true =>
   rcases W.neg _ y _ e with q | q
   ·rw [h'] at q;cases q
   ·rw [h] at q;cases q
noncomputable def Up (blt:α->α->Bool) (k:Nat->α) (ix:Nat->Nat) (m:Nat):Prop:=∀ i j,i<j->j<m->Rk blt k (ix i) (ix j)
noncomputable def Dn (blt:α->α->Bool) (k:Nat->α) (ix:Nat->Nat) (m:Nat):Prop:=∀ i j,i<j->j<m->Rk blt k (ix j) (ix i)
structure Pre (ix:Nat->Nat) (m:Nat):Prop where
 lt:∀ i,i<m->ix i<m
 id:∀ i,m<=i->ix i=i
theorem Pre.more {ix:Nat->Nat} {m n:Nat} (h:Pre ix m) (hm:m<=n):Pre ix n :=
 ⟨fun i hi=>by
  by_cases z:i<m
  ·have:=h.lt i z;lia
  ·rw [h.id i (by lia)];exact hi,fun i hi=>h.id i (by lia)⟩
theorem Pre.idf:Pre (fun i=>i) m:=⟨fun _ h=>h,fun _ _=>rfl⟩
noncomputable def mixF (ix:Nat->Nat) (i j:Nat):Nat->Nat:=fun p=>if i<=p/\p<j then ix (i+j - 1 - p) else ix p
noncomputable def bubF (ix:Nat->Nat) (s l:Nat):Nat->Nat:=fun p=>if p=l then ix s else if l<p/\p<=s then ix (p - 1) else ix p
theorem Pre.mix {ix:Nat->Nat} {m i j:Nat} (h:Pre ix m) (hj:j<=m):Pre (mixF ix i j) m:=by
 refine ⟨fun p hp=>?_,fun p hp=>?_⟩
 ·unfold mixF
  split
  ·exact h.lt _ (by lia)
  ·exact h.lt _ hp
 ·unfold mixF
  rw [if_neg (by lia)]
  exact h.id p hp
theorem Pre.bub {ix:Nat->Nat} {s l:Nat} (h:Pre ix s) (hl:l<=s):Pre (bubF ix s l) (s+1):=by
 refine ⟨fun p hp=>?_,fun p hp=>?_⟩
 ·unfold bubF
  split
  ·rw [h.id s (Nat.le_refl _)];lia
  ·split
   ·have:=h.lt (p - 1) (by lia);lia
   ·have:=h.lt p (by lia);lia
 ·unfold bubF
  rw [if_neg (by lia),if_neg (by lia)]
  exact h.id p (by lia)
theorem z2a {ix:Nat->Nat} (W:WO blt) {m:Nat} (h:Up blt k ix m) (hm:0<m) (n:Rk blt k (ix (m - 1)) (ix m)):Up blt k ix (m+1):=fun i j hij hj=>by
 by_cases e:j<m
 ·exact h i j hij e
 ·have:j=m:=by lia
  subst this
  by_cases e2:i=j - 1
  ·subst e2;exact n
  ·exact (h i (j - 1) (by lia) (by lia)).trans W n
theorem z0v {ix:Nat->Nat} {m:Nat} (h:Dn blt k ix m):Up blt k (mixF ix 0 m) m:=fun i j hij hj=>by
 unfold mixF
 rw [if_pos (by lia),if_pos (by lia)]
 exact h _ _ (by lia) (by lia)
theorem z1v {ix:Nat->Nat} {s l:Nat} (h:Up blt k ix s) (p:Pre ix s) (hl:l<=s) (lo:∀ i,i<l->blt (k s) (k (ix i))=false) (hi:∀ i,l<=i->i<s->blt (k s) (k (ix i))=true):Up blt k (bubF ix s l) (s+1):=by
 have es:=p.id s (Nat.le_refl _)
 intro i j hij hj
 unfold bubF
 by_cases a:i=l
 ·rw [if_pos a,if_neg (by lia),if_pos (by lia),es]
  exact .inl (hi _ (by lia) (by lia))
 ·rw [if_neg a]
  by_cases b:l<i/\i<=s
  ·rw [if_pos b,if_neg (by lia),if_pos (by lia)]
   exact h _ _ (by lia) (by lia)
  ·rw [if_neg b]
   by_cases c:j=l
   ·rw [if_pos c,es]
    exact .inr ⟨lo i (by lia),p.lt i (by lia)⟩
   ·rw [if_neg c]
    by_cases d:l<j/\j<=s
    ·rw [if_pos d]
     exact h _ _ (by lia) (by lia)
    ·rw [if_neg d]
     exact h _ _ (by lia) (by lia)
structure Des (blt:α->α->Bool) (k:Nat->α) (ix:Nat->Nat) (m q:Nat):Prop where
 le:q+1<=m
 up:∀ i j,i<j->j<m->i+(q+1)<m->Rk blt k (ix j) (ix i)
 far:∀ i j,i+(q+1)<m->m<=j+(q+1)->j<m->blt (k (ix j)) (k (ix i))=true
 al:∀ i j,m<=i+(q+1)->i<j->j<m->blt (k (ix i)) (k (ix j))=false/\blt (k (ix j)) (k (ix i))=false/\ix i<ix j
theorem Des.turn {ix:Nat->Nat} {m q:Nat} (h:Des blt k ix m q):Dn blt k (mixF ix (m - (q+1)) m) m:=by
 intro i j hij hj
 have:=h.le
 unfold mixF
 by_cases a:m - (q+1)<=i/\i<m
 ·rw [if_pos a,if_pos (by lia)]
  obtain ⟨h1,h2,h3⟩:=h.al (m - (q+1)+m - 1 - j) (m - (q+1)+m - 1 - i) (by lia) (by lia) (by lia)
  exact .inr ⟨h2,h3⟩
 ·rw [if_neg a]
  by_cases b:m - (q+1)<=j/\j<m
  ·rw [if_pos b]
   exact h.up _ _ (by lia) (by lia) (by lia)
  ·rw [if_neg b]
   exact h.up _ _ hij hj (by lia)
theorem Des.dn {ix:Nat->Nat} {m:Nat} (h:Des blt k ix m 0):Dn blt k ix m:=fun i j hij hj=>h.up i j hij hj (by lia)
theorem zgt {ix:Nat->Nat} (W:WO blt) {m:Nat} (h:Dn blt k ix m) (hm:0<m) (n:blt (k (ix m)) (k (ix (m - 1)))=true):Des blt k ix (m+1) 0:=by
 have hb:∀ i,i<m->blt (k (ix m)) (k (ix i))=true:=fun i hi=>by
  by_cases e:i=m - 1
  ·subst e;exact n
  ·exact zfk W n ((h i (m - 1) (by lia) (by lia)).le W)
 refine ⟨by lia,fun i j hij hj _=>?_,fun i j h1 h2 h3=>?_,fun i j h1 h2 h3=>by lia⟩
 ·by_cases e:j<m
  ·exact h i j hij e
  ·have:j=m:=by lia
   subst this
   exact .inl (hb i hij)
 ·have:j=m:=by lia
  subst this
  exact hb i (by lia)
theorem z3h {ix:Nat->Nat} (W:WO blt) {m q:Nat} (h:Des blt k ix m q) (p:Pre ix m) (n1:blt (k (ix m)) (k (ix (m - 1)))=false) (n2:blt (k (ix (m - 1))) (k (ix m))=false):Des blt k ix (m+1) (q+1):=by
 have hl:=h.le
 have em:=p.id m (Nat.le_refl _)
 have key:∀ i,m<=i+(q+1)->i<m->blt (k (ix i)) (k (ix m))=false/\blt (k (ix m)) (k (ix i))=false:=fun i h1 h2=>by
  by_cases e:i=m - 1
  ·subst e;exact ⟨n2,n1⟩
  ·obtain ⟨a,b,_⟩:=h.al i (m - 1) h1 (by lia) (by lia)
   exact ⟨ziv W n2 a,ziv W b n1⟩
 refine ⟨by lia,fun i j hij hj hi=>?_,fun i j h1 h2 h3=>?_,fun i j h1 h2 h3=>?_⟩
 ·by_cases e:j<m
  ·exact h.up i j hij e (by lia)
  ·have:j=m:=by lia
   subst this
   exact .inl (zwq W n2 (h.far i (j - 1) (by lia) (by lia) (by lia)))
 ·by_cases e:j<m
  ·exact h.far i j (by lia) (by lia) e
  ·have:j=m:=by lia
   subst this
   exact zwq W n2 (h.far i (j - 1) (by lia) (by lia) (by lia))
 ·by_cases e:j<m
  ·exact h.al i j (by lia) h2 e
  ·have:j=m:=by lia
   subst this
   obtain ⟨a,b⟩:=key i (by lia) h2
   refine ⟨a,b,?_⟩
   rw [em]
   exact p.lt i h2
structure Bij (ix:Nat->Nat) (n:Nat):Prop where
 lt:∀ i,i<n->ix i<n
 inj:∀ i j,i<n->j<n->ix i=ix j->i=j
 sur:∀ p,p<n->∃ i,i<n/\ix i=p
theorem Bij.idf {n:Nat}:Bij (fun i=>i) n:=⟨fun _ h=>h,fun _ _ _ _ e=>e,fun p h=>⟨p,h,rfl⟩⟩
theorem Bij.comp {ix f:Nat->Nat} {n:Nat} (h:Bij ix n) (g:Bij f n):Bij (fun p=>ix (f p)) n :=
 ⟨fun i hi=>h.lt _ (g.lt i hi),fun i j hi hj e=>g.inj i j hi hj (h.inj _ _ (g.lt i hi) (g.lt j hj) e),fun p hp=>by
  obtain ⟨i,hi,e⟩:=h.sur p hp
  obtain ⟨j,hj,e'⟩:=g.sur i hi
  exact ⟨j,hj,by rw [e',e]⟩⟩
theorem Bij.of {f g:Nat->Nat} {n:Nat} (a:∀ i,i<n->f i<n) (b:∀ i,i<n->g i<n) (c:∀ i,i<n->g (f i)=i) (d:∀ i,i<n->f (g i)=i):Bij f n :=
 ⟨a,fun i j hi hj e=>by rw [<- c i hi,e,c j hj],fun p hp=>⟨g p,b p hp,d p hp⟩⟩
noncomputable def swF (i j p:Nat):Nat:=if i<=p/\p<j then i+j - 1 - p else p
noncomputable def bbF (s l p:Nat):Nat:=if p=l then s else if l<p/\p<=s then p - 1 else p
noncomputable def bbG (s l p:Nat):Nat:=if p=s then l else if l<=p/\p<s then p+1 else p
theorem ztj {i j n p:Nat} (hj:j<=n) (hp:p<n):swF i j p<n:=by unfold swF;split <;> lia
theorem zts (i j p:Nat):swF i j (swF i j p)=p:=by
 unfold swF
 by_cases a:i<=p/\p<j
 ·rw [if_pos a,if_pos (by lia)];lia
 ·rw [if_neg a,if_neg a]
theorem Bij.mix {ix:Nat->Nat} {n i j:Nat} (h:Bij ix n) (hj:j<=n):Bij (mixF ix i j) n:=by
 have e:mixF ix i j=fun p=>ix (swF i j p):=by
  funext p
  unfold mixF swF
  split <;> rfl
 rw [e]
 exact h.comp (.of (g:=swF i j) (fun p hp=>ztj hj hp) (fun p hp=>ztj hj hp) (fun p _=>zts i j p) fun p _=>zts i j p)
theorem Bij.bub {ix:Nat->Nat} {n s l:Nat} (h:Bij ix n) (hs:s<n) (hl:l<=s):Bij (bubF ix s l) n:=by
 have e:bubF ix s l=fun p=>ix (bbF s l p):=by
  funext p
  unfold bubF bbF
  split
  ·rfl
  ·split <;> rfl
 rw [e]
 refine h.comp (.of (g:=bbG s l) (fun p hp=>?_) (fun p hp=>?_) (fun p hp=>?_) fun p hp=>?_)
 ·unfold bbF;repeat' split
  all_goals lia
 ·unfold bbG;repeat' split
  all_goals lia
 ·unfold bbF bbG;repeat' split
  all_goals lia
 ·unfold bbF bbG;repeat' split
  all_goals lia
theorem Bij.perm {ix:Nat->Nat} {n:Nat} (h:Bij ix n):((List.range n).map ix).Perm (List.range n):=by
 rw [List.perm_iff_count]
 intro a
 have nd:((List.range n).map ix).Nodup:=by
  unfold List.Nodup
  rw [List.pairwise_map,List.pairwise_iff_getElem]
  intro i j hi hj hij e
  rw [List.length_range] at hi hj
  rw [List.getElem_range,List.getElem_range] at e
  have:=h.inj i j hi hj e
  lia
 rw [nd.count,List.nodup_range.count]
 have:(a ∈ (List.range n).map ix)↔a ∈ List.range n:=by
  rw [List.mem_map,List.mem_range]
  constructor
  ·rintro ⟨i,hi,rfl⟩
   exact h.lt i (List.mem_range.mp hi)
  ·intro ha
   obtain ⟨i,hi,e⟩:=h.sur a ha
   exact ⟨i,List.mem_range.mpr hi,e⟩
 by_cases z:a ∈ List.range n
 ·rw [if_pos z,if_pos (this.mpr z)]
 ·rw [if_neg z,if_neg fun q=>z (this.mp q)]
end
end L6
namespace L6
open PySem PyProof.Rows
section
variable {prog : Program} {w : World} {A : Around} {E : Value → Shared → Prop} {s : Shared} {α : Type} {blt : α → α → Bool} {k : Nat → α} {a₀ : Array Keyed} {kd : SortKind} {ix : Nat → Nat} {st : SortSt}
noncomputable def zd0 (prog:Program) (w:World) (A:Around) (s:Shared) (kd:SortKind) (a₀:Array Keyed) (blt:α->α->Bool) (k:Nat->α):Prop :=
 ∀ (i j:Nat) (x p y q:Value) (E:Value->Shared->Prop) (Q:Bool->Shared->Prop),a₀[i]? = some (x,p)->a₀[j]? = some (y,q)->Q (blt (k i) (k j)) s->wpAny (model prog w) A (keyLt' kd x y) Q E s
structure Sb (a₀:Array Keyed) (kd:SortKind) (ix:Nat->Nat) (st:SortSt):Prop where
 sz:(arrOf st).size=a₀.size
 at_:∀ i,i<a₀.size->(arrOf st)[i]? = a₀[ix i]?
 bj:Bij ix a₀.size
 fa:failedOf st=none
 pe:pendingOf st = #[]
 ki:kindOf st=kd
theorem zi3 {i j:Nat} {Q:Option Bool->SortSt->Prop} (hC:zd0 prog w A s kd a₀ blt k) (b:Sb a₀ kd ix st) (hi:i<a₀.size) (hj:j<a₀.size) (h:Q (some (blt (k (ix i)) (k (ix j)))) st):wpS (model prog w) A E s (ltAt' i j) Q st:=by
 obtain ⟨⟨x,p⟩,gi⟩:∃ z,a₀[ix i]? = some z:=⟨_,Array.getElem?_eq_getElem (b.bj.lt i hi)⟩
 obtain ⟨⟨y,q⟩,gj⟩:∃ z,a₀[ix j]? = some z:=⟨_,Array.getElem?_eq_getElem (b.bj.lt j hj)⟩
 rw [ltAt'_eq]
 refine wpS_bind (wpS_get ?_)
 change wpS (model prog w) A E s (elem' (arrOf st) i >>= fun x=>elem' (arrOf st) j >>= fun y=>lt' x y) Q st
 rw [elem'_eq,elem'_eq,b.at_ i hi,b.at_ j hj,gi,gj]
 refine wpS_bind (wpS_pure (wpS_bind (wpS_pure ?_)))
 rw [lt'_eq]
 refine wpS_bind (wpS_get ?_)
 rw [b.ki]
 refine wpS_bind (wpS_lift (wpAny_attempt (hC _ _ _ _ _ _ _ _ gi gj ⟨rfl,?_⟩)))
 exact wpS_pure h
theorem Sb.mix {i j:Nat} (b:Sb a₀ kd ix st) (hj:j<=a₀.size):Sb a₀ kd (mixF ix i j) (setArr st (mirror (arrOf st) i j ((j - i) / 2))):=by
 refine ⟨(mirror_size _ _ _ _).trans b.sz,fun p hp=>?_,b.bj.mix hj,b.fa,b.pe,b.ki⟩
 show (mirror (arrOf st) i j ((j - i) / 2))[p]? = _
 rw [getElem?_mirror_all (by rw [b.sz];exact hj)]
 unfold mixF
 split
 ·exact b.at_ _ (by lia)
 ·exact b.at_ _ hp
theorem Sb.bub {q l:Nat} (b:Sb a₀ kd ix st) (hq:q<a₀.size) (hl:l<=q):Sb a₀ kd (bubF ix q l) (setArr st (bubble (arrOf st) q (q - l))):=by
 refine ⟨(bubble_size _ _ _).trans b.sz,fun p hp=>?_,b.bj.bub hq hl,b.fa,b.pe,b.ki⟩
 show (bubble (arrOf st) q (q - l))[p]? = _
 rw [getElem?_bubble (by rw [b.sz];exact hq) _ (by lia),show q - (q - l)=l by lia]
 unfold bubF
 split
 ·exact b.at_ _ hq
 ·split
  ·exact b.at_ _ (by lia)
  ·exact b.at_ _ hp
theorem z3a {n ok:Nat} {Q:Bool->SortSt->Prop} (W:WO blt) (hC:zd0 prog w A s kd a₀ blt k) (hn:n<=a₀.size) (hok:ok<=n) (h1:1<=ok) (b:Sb a₀ kd ix st) (up:Up blt k ix ok) (pr:Pre ix ok)
 (h:∀ ix' st',Sb a₀ kd ix' st'->Up blt k ix' n->Q true st'):wpS (model prog w) A E s (binarySort' 0 n ok) Q st:=by
 rw [binarySort'_eq]
 simp only [Nat.zero_add]
 rw [show max ok 1=ok by lia]
 refine wpS_bind (wpS_mono (wpS_forRange (I:=fun q c st'=>c=(none,())/\∃ ix',Sb a₀ kd ix' st'/\Up blt k ix' q/\Pre ix' q) (Q:=fun c st'=>c=(none,())/\∃ ix',Sb a₀ kd ix' st'/\Up blt k ix' n) ?turn ?out ⟨rfl,ix,b,up,pr⟩) ?rest)
 case rest =>
  rintro c st' ⟨rfl,ix',b',u'⟩
  exact wpS_pure (h ix' st' b' u')
 case out =>
  rintro c st' ⟨hc,ix',b',u',_⟩
  rw [show max ok n=n by lia] at u'
  exact ⟨hc,ix',b',u'⟩
 case turn =>
  rintro q c st' hq1 hq2 ⟨rfl,ix',b',u',p'⟩
  have hq:q<a₀.size:=by lia
  have eq:=p'.id q (Nat.le_refl _)
  refine wpS_bind (wpS_mono (wpS_forRange (I:=fun x c st2=>st2=st'/\∃ l r,c=(none,l,r)/\l<=r/\r<=q/\r - l<=q - x/\(∀ i,i<l->blt (k q) (k (ix' i))=false)/\∀ i,r<=i->i<q->blt (k q) (k (ix' i))=true)
   (Q:=fun c st2=>st2=st'/\∃ l r,c=(none,l,r)/\l<=q/\(∀ i,i<l->blt (k q) (k (ix' i))=false)/\∀ i,l<=i->i<q->blt (k q) (k (ix' i))=true) ?tu ?ou ?bg) ?re)
  case bg=>exact ⟨rfl,0,q,rfl,by lia,Nat.le_refl _,by lia,fun i z=>absurd z (by lia),fun i z z'=>absurd z (by lia)⟩
  case ou =>
   rintro c st2 ⟨rfl,l,r,rfl,z1,z2,z3,z4,z5⟩
   have:l=r:=by lia
   subst this
   exact ⟨rfl,l,l,rfl,z2,z4,z5⟩
  case tu =>
   rintro x c st2 _ hx ⟨rfl,l,r,rfl,z1,z2,z3,z4,z5⟩
   dsimp only
   by_cases ge:l ≥ r
   ·rw [if_pos ge]
    have:l=r:=by lia
    subst this
    exact wpS_pure ⟨rfl,l,l,rfl,z2,z4,z5⟩
   ·rw [if_neg ge]
    refine wpS_bind (zi3 hC b' hq (j:=(l+r) / 2) (by lia) ?_)
    rw [eq]
    cases le:blt (k q) (k (ix' ((l+r) / 2))) with
    | true =>
      simp only [if_true]
      refine wpS_pure ⟨rfl,l,(l+r) / 2,rfl,by lia,by lia,by lia,z4,fun i y1 y2=>?_⟩
      by_cases e:i=(l+r) / 2
      ·subst e;exact le
      ·exact zfk W le ((u' _ _ (show (l+r) / 2<i by lia) y2).le W)
    | false =>
      simp only [Bool.false_eq_true,if_false]
      refine wpS_pure ⟨rfl,(l+r) / 2+1,r,rfl,by lia,by lia,by lia,fun i y1=>?_,z5⟩
      by_cases e:i=(l+r) / 2
      ·subst e;exact le
      ·exact ziv W ((u' i _ (show i<(l+r) / 2 by lia) (by lia)).le W) le
  case re =>
   rintro c st2 ⟨rfl,l,r,rfl,z2,z4,z5⟩
   change wpS (model prog w) A E s (moveDown' q l >>= fun _=>pure (ForInStep.yield (none,()))) _ st2
   rw [moveDown'_eq]
   exact wpS_bind (wpS_modify (wpS_pure ⟨rfl,bubF ix' q l,b'.bub hq z2,z1v u' p' z2 z4 z5,p'.bub z2⟩))
theorem ztv {a n:Nat} {Q:AscSt->SortSt->Prop} (W:WO blt) (hC:zd0 prog w A s kd a₀ blt k) (hn:n<=a₀.size) (ha:1<=a) (han:a<=n) (b:Sb a₀ kd ix st) (up:Up blt k ix a) (pr:Pre ix a)
 (h:∀ m,a<=m->m<=n->Up blt k ix m->(m=n\/blt (k (ix m)) (k (ix (m - 1)))=true)->Q (none,m) st):wpS (model prog w) A E s (ascLoop a n) Q st:=by
 unfold ascLoop
 refine wpS_forRange (I:=fun x c st'=>st'=st/\c=(none,x)/\Up blt k ix x) ?turn ?out ⟨rfl,rfl,up⟩
 case out =>
  rintro c st' ⟨rfl,rfl,u⟩
  rw [show max a n=n by lia] at u ⊢
  exact h n han (Nat.le_refl _) u (.inl rfl)
 case turn =>
  rintro x c st' h1 h2 ⟨rfl,rfl,u⟩
  dsimp only
  refine wpS_bind (zi3 hC b (by lia) (by lia) ?_)
  cases le:blt (k (ix x)) (k (ix (x - 1))) with
  | true =>
    simp only [if_true]
    exact wpS_pure (h x h1 (by lia) u (.inr le))
  | false =>
    simp only [Bool.false_eq_true,if_false]
    refine wpS_pure ⟨rfl,rfl,z2a W u (by lia) (.inr ⟨le,?_⟩)⟩
    rw [(pr.more h1).id x (Nat.le_refl _)]
    exact (pr.more h1).lt _ (by lia)
theorem zot {m n:Nat} {Q:Option Nat->SortSt->Prop} (W:WO blt) (hC:zd0 prog w A s kd a₀ blt k) (hn:n<=a₀.size) (h1:1<=m) (hm:m<=n) (b:Sb a₀ kd ix st) (dn:Dn blt k ix m) (pr:Pre ix m)
 (h:∀ m' ix' st',Sb a₀ kd ix' st'->1<=m'->m'<=n->Up blt k ix' m'->Pre ix' m'->Q (some m') st'):wpS (model prog w) A E s (tail3 m n) Q st:=by
 unfold tail3
 refine wpS_bind (wpS_reverse ?_)
 have b':=b.mix (i:=0) (j:=m) (by lia)
 have p':=pr.mix (i:=0) (Nat.le_refl m)
 exact wpS_bind (ztv W hC hn h1 hm b' (z0v dn) p' fun m' z1 z2 u _=>wpS_pure (h m' _ _ b' (by lia) z2 u (p'.more z1)))
theorem zxh {m n:Nat} {Q:DescSt->SortSt->Prop} (W:WO blt) (hC:zd0 prog w A s kd a₀ blt k) (hn:n<=a₀.size) (hm:m<=n) (b:Sb a₀ kd ix st) (de:Des blt k ix m 0) (pr:Pre ix m)
 (h:∀ m' q ix' st',Sb a₀ kd ix' st'->m<=m'->m'<=n->Des blt k ix' m' q->Pre ix' m'->Q (none,m',q) st'):wpS (model prog w) A E s (descLoop m n) Q st:=by
 unfold descLoop
 refine wpS_forRange (I:=fun x c st'=>∃ q ix',c=(none,x,q)/\Sb a₀ kd ix' st'/\Des blt k ix' x q/\Pre ix' x) ?turn ?out ⟨0,ix,rfl,b,de,pr⟩
 case out =>
  rintro c st' ⟨q,ix',rfl,b',d',p'⟩
  rw [show max m n=n by lia] at d' p' ⊢
  exact h n q ix' st' b' hm (Nat.le_refl _) d' p'
 case turn =>
  rintro x c st' h1 h2 ⟨q,ix',rfl,b',d',p'⟩
  dsimp only
  have hq:=d'.le
  refine wpS_bind (zi3 hC b' (by lia) (by lia) ?_)
  cases le:blt (k (ix' x)) (k (ix' (x - 1))) with
  | true =>
    simp only [if_true]
    by_cases z:q > 0
    ·rw [if_pos z]
     refine wpS_bind (wpS_reverse (wpS_pure ⟨0,_,rfl,b'.mix (by lia),?_,(p'.mix (Nat.le_refl _)).more (by lia)⟩))
     refine zgt W d'.turn (by lia) ?_
     have e1:mixF ix' (x - (q+1)) x x=ix' x:=by unfold mixF;rw [if_neg (by lia)]
     have e2:mixF ix' (x - (q+1)) x (x - 1)=ix' (x - (q+1)):=by unfold mixF;rw [if_pos (by lia)];congr 1;lia
     rw [e1,e2]
     have:=d'.al (x - (q+1)) (x - 1) (by lia) (by lia) (by lia)
     exact zfk W le this.1
    ·rw [if_neg z]
     have:q=0:=by lia
     subst this
     exact wpS_pure ⟨0,ix',rfl,b',zgt W d'.dn (by lia) le,p'.more (by lia)⟩
  | false =>
    simp only [Bool.false_eq_true,if_false]
    refine wpS_bind (zi3 hC b' (by lia) (by lia) ?_)
    cases gr:blt (k (ix' (x - 1))) (k (ix' x)) with
    | true =>
      simp only [if_true]
      exact wpS_pure (h x q ix' st' b' h1 (by lia) d' p')
    | false =>
      simp only [Bool.false_eq_true,if_false]
      exact wpS_pure ⟨q+1,ix',rfl,b',z3h W d' p' le gr,p'.more (by lia)⟩
theorem zoh {m n:Nat} {Q:Option Nat->SortSt->Prop} (W:WO blt) (hC:zd0 prog w A s kd a₀ blt k) (hn:n<=a₀.size) (hm:m+1<=n) (b:Sb a₀ kd ix st) (de:Des blt k ix (m+1) 0) (pr:Pre ix (m+1))
 (h:∀ m' ix' st',Sb a₀ kd ix' st'->1<=m'->m'<=n->Up blt k ix' m'->Pre ix' m'->Q (some m') st'):wpS (model prog w) A E s (descPart m n) Q st:=by
 unfold descPart
 refine wpS_bind (wpS_lift (wpAny_rule ⟨rfl,?_⟩))
 refine wpS_bind (zxh W hC hn hm b de pr fun m' q ix' st' b' z1 z2 d' p'=>?_)
 dsimp only
 by_cases z:q > 0
 ·rw [if_pos z]
  exact wpS_bind (wpS_reverse (zot W hC hn (by lia) z2 (b'.mix (by lia)) d'.turn (p'.mix (Nat.le_refl _)) h))
 ·rw [if_neg z]
  have:q=0:=by lia
  subst this
  exact zot W hC hn (by lia) z2 b' d'.dn p' h
theorem z2f {n:Nat} {Q:Option Nat->SortSt->Prop} (W:WO blt) (hC:zd0 prog w A s kd a₀ blt k) (hn:n<=a₀.size) (h1:1<=n) (b:Sb a₀ kd (fun i=>i) st)
 (h:∀ m' ix' st',Sb a₀ kd ix' st'->1<=m'->m'<=n->Up blt k ix' m'->Pre ix' m'->Q (some m') st'):wpS (model prog w) A E s (countRun' 0 n) Q st:=by
 rw [countRun0_eq]
 refine wpS_bind (ztv W hC hn (Nat.le_refl 1) h1 b (fun i j z z'=>absurd z (by lia)) Pre.idf fun m z1 z2 u o=>?_)
 dsimp only
 by_cases e:m=n
 ·rw [if_pos (by simpa using e)]
  exact wpS_pure (h m _ st b z1 z2 u Pre.idf)
 ·rw [if_neg (by simpa using e)]
  have lt:=o.resolve_left e
  by_cases g:m > 1
  ·rw [if_pos g]
   refine wpS_bind (zi3 hC b (i:=0) (j:=m - 1) (by lia) (by lia) ?_)
   cases ro:blt (k 0) (k (m - 1)) with
   | true =>
     simp only [if_true]
     exact wpS_pure (h m _ st b z1 z2 u Pre.idf)
   | false =>
     simp only [Bool.false_eq_true,if_false]
     refine wpS_bind (wpS_reverse (zoh W hC hn (by lia) (b.mix (by lia)) ?_ ((Pre.idf.mix (Nat.le_refl m)).more (by lia)) h))
     have al:∀ i j,i<j->j<m->blt (k j) (k i)=false/\blt (k i) (k j)=false:=fun i j y1 y2=>by
      refine ⟨(u i j y1 y2).le W,?_⟩
      have a1:blt (k i) (k 0)=false:=by
       by_cases q:i=0
       ·subst q;exact W.irr _
       ·exact (u 0 i (by lia) (by lia)).le W
      have a2:blt (k (m - 1)) (k j)=false:=by
       by_cases q:j=m - 1
       ·subst q;exact W.irr _
       ·exact (u j (m - 1) (by lia) (by lia)).le W
      exact ziv W (ziv W a2 ro) a1
     refine zgt W (fun i j y1 y2=>?_) (by lia) ?_
     ·have e1:mixF (fun i=>i) 0 m i=m - 1 - i:=by unfold mixF;rw [if_pos (by lia)];show 0+m - 1 - i=m - 1 - i;lia
      have e2:mixF (fun i=>i) 0 m j=m - 1 - j:=by unfold mixF;rw [if_pos (by lia)];show 0+m - 1 - j=m - 1 - j;lia
      rw [e1,e2]
      exact .inr ⟨(al _ _ (by lia) (by lia)).1,by lia⟩
     ·have e1:mixF (fun i=>i) 0 m m=m:=by unfold mixF;rw [if_neg (by lia)]
      have e2:mixF (fun i=>i) 0 m (m - 1)=0:=by unfold mixF;rw [if_pos (by lia)];show 0+m - 1 - (m - 1)=0;lia
      rw [e1,e2]
      exact zfk W lt ro
  ·rw [if_neg g]
   have:m=1:=by lia
   subst this
   refine zoh W hC hn (by lia) b (zgt W (fun i j y1 y2=>absurd y1 (by lia)) (by lia) lt) Pre.idf h
theorem zxr {Q:Unit->SortSt->Prop} (W:WO blt) (hC:zd0 prog w A s kd a₀ blt k) (b:Sb a₀ kd (fun i=>i) st) (h2:2<=a₀.size) (h64:a₀.size<64)
 (h:∀ ix' st',(arrOf st').size=a₀.size->(∀ i,i<a₀.size->(arrOf st')[i]? = a₀[ix' i]?)->Bij ix' a₀.size->failedOf st'=none->Up blt k ix' a₀.size->Q () st'):wpS (model prog w) A E s sortRuns' Q st:=by
 rw [sortRuns'_eq]
 refine wpS_bind (wpS_get ?_)
 dsimp only
 have mr:minRun' a₀.size a₀.size 0=a₀.size:=by
  have key:∀ f n:Nat,n<64->minRun' (f+1) n 0=n:=fun f n hn=>by rw [minRun'_succ,if_pos hn];rfl
  have:=key (a₀.size - 1) a₀.size h64
  rwa [show a₀.size - 1+1=a₀.size by lia] at this
 simp only [b.sz,mr]
 let Fin':SortSt->Prop:=fun st'=>∃ ix',(arrOf st').size=a₀.size/\(∀ i,i<a₀.size->(arrOf st')[i]? = a₀[ix' i]?)/\Bij ix' a₀.size/\failedOf st'=none/\pendingOf st' = #[(0,a₀.size,0)]/\Up blt k ix' a₀.size
 have fin:∀ ix' st',Sb a₀ kd ix' st'->Up blt k ix' a₀.size->Fin' (setPending st' ((pendingOf st').push (0,a₀.size,0))):=fun ix' st' b' u' =>
  ⟨ix',b'.sz,b'.at_,b'.bj,b'.fa,by show (pendingOf st').push _=_;rw [b'.pe];rfl,u'⟩
 refine wpS_bind (wpS_mono (wpS_forRange (I:=fun x c st'=>(x=0/\c=(none,0)/\Sb a₀ kd (fun i=>i) st')\/(1<=x/\c=(none,a₀.size)/\Fin' st')) (Q:=fun c st'=>c=(none,a₀.size)/\Fin' st') ?turn ?out (.inl ⟨rfl,rfl,b⟩)) ?rest)
 case out =>
  rintro c st' (⟨z,_,_⟩ | ⟨_,z,f⟩)
  ·lia
  ·exact ⟨z,f⟩
 case turn =>
  rintro x c st' _ hx (⟨rfl,rfl,b'⟩ | ⟨_,rfl,f⟩)
  ·dsimp only
   rw [if_neg (by lia)]
   simp only [Nat.sub_zero,Nat.min_self,Nat.zero_add]
   refine wpS_bind (z2f W hC (Nat.le_refl _) (by lia) b' fun m ix2 st2 b2 z1 z2 u2 p2=>?_)
   dsimp only
   by_cases lt:m<a₀.size
   ·rw [if_pos lt]
    refine wpS_bind (wpS_lift (wpAny_rule ⟨rfl,?_⟩))
    refine wpS_bind (z3a W hC (Nat.le_refl _) z2 z1 b2 u2 p2 fun ix3 st3 b3 u3=>?_)
    simp only [Bool.not_true,Bool.false_eq_true,if_false]
    refine wpS_bind (wpS_get ?_)
    rw [show (pendingOf st3).back? = none by rw [b3.pe];rfl]
    dsimp only
    exact wpS_bind (wpS_modify (wpS_pure (.inr ⟨by lia,rfl,fin ix3 st3 b3 u3⟩)))
   ·rw [if_neg lt]
    have:m=a₀.size:=by lia
    subst this
    refine wpS_bind (wpS_get ?_)
    rw [show (pendingOf st2).back? = none by rw [b2.pe];rfl]
    dsimp only
    exact wpS_bind (wpS_modify (wpS_pure (.inr ⟨by lia,rfl,fin ix2 st2 b2 u2⟩)))
  ·dsimp only
   rw [if_pos (Nat.le_refl _)]
   exact wpS_pure ⟨rfl,f⟩
 case rest =>
  rintro c st' ⟨rfl,ix',z1,z2,z3,z4,z5,z6⟩
  dsimp only
  refine wpS_bind (wpS_mono (wpS_forRange (I:=fun _ c st2=>st2=st'/\c=(none,())) (Q:=fun c st2=>st2=st'/\c=(none,())) ?_ (fun _ _ y=>y) ⟨rfl,rfl⟩) ?_)
  ·rintro x c st2 _ _ ⟨rfl,rfl⟩
   refine wpS_bind (wpS_get ?_)
   rw [if_pos (by rw [z5];exact Nat.le_refl 1)]
   exact wpS_pure ⟨rfl,rfl⟩
  ·rintro c st2 ⟨rfl,rfl⟩
   exact wpS_pure (h ix' _ z1 z2 z3 z4 z6)
end
end L6
namespace L6
open PySem PyProof.Rows
section
variable {prog : Program} {w : World} {A : Around} {E : Value → Shared → Prop} {s : Shared}
structure Ord {α:Type} (blt:α->α->Bool) (k:Nat->α) (n:Nat) (ix:Nat->Nat):Prop where
 bj:Bij ix n
 up:Up blt k ix n
noncomputable def zdf (vs:List Value) (ix:Nat->Nat):List Value:=(List.range vs.length).map fun i=>vs.getD (ix i) .none
structure KeysOk {α:Type} (prog:Program) (w:World) (A:Around) (s:Shared) (ks vs:List Value) (blt:α->α->Bool) (k:Nat->α):Prop where
 wo:WO blt
 kd:2<=vs.length->∃ kd:SortKind,(∀ (E:Value->Shared->Prop) (Q:SortKind->Shared->Prop),Q kd s->wpAny (model prog w) A (keyKind' ks.toArray) Q E s)/\zd0 prog w A s kd (ks.toArray.zip vs.toArray) blt k
theorem zl0 {ks vs:List Value} (hl:ks.length=vs.length) {i:Nat} {p:Keyed} (h:(ks.toArray.zip vs.toArray)[i]? = some p):ks[i]? = some p.1/\vs[i]? = some p.2:=by
 have:(ks.zip vs)[i]? = some p:=by
  have e:ks.toArray.zip vs.toArray=(ks.zip vs).toArray:=by simp
  rw [e] at h
  simpa using h
 rw [List.getElem?_zip_eq_some] at this
 exact this
theorem zx4 {vs:List Value} {ks:List Value} (hl:ks.length=vs.length) {ix:Nat->Nat} (bj:Bij ix vs.length) {arr:Array Keyed} (hz:arr.size=vs.length) (h:∀ i,i<vs.length->arr[i]? = (ks.toArray.zip vs.toArray)[ix i]?):arr.map (·.2)=(zdf vs ix).toArray:=by
 refine Array.ext (by simp [zdf,hz]) fun i h1 h2=>?_
 have hi:i<vs.length:=by simpa [zdf] using h2
 have hx:=bj.lt i hi
 have h3:=h i hi
 obtain ⟨p,hp⟩:∃ p,arr[i]? = some p:=⟨_,Array.getElem?_eq_getElem (by lia)⟩
 have h4:=(zl0 hl (h3.symm.trans hp)).2
 have e1:(arr.map (·.2))[i]? = some p.2:=by simp [hp]
 have e2:(zdf vs ix).toArray[i]? = some p.2:=by
  simp only [zdf,List.getElem?_toArray,List.getElem?_map,List.getElem?_range hi,Option.map_some]
  rw [List.getD_eq_getElem?_getD,h4]
  rfl
 rw [Array.getElem?_eq_getElem h1] at e1
 rw [Array.getElem?_eq_getElem h2] at e2
 exact Option.some.inj (e1.trans e2.symm)
end
end L6
namespace L6
noncomputable def wlt (a b:List Nat):Bool:=decide (a.length<b.length) || (decide (a.length=b.length) && decide (a<b))
theorem wlt_iff {a b:List Nat}:wlt a b=true↔a.length<b.length\/(a.length=b.length/\a<b):=by simp [wlt]
theorem zx9 (a b:List Nat) (h:wlt a b=false) (h':wlt b a=false):a=b:=by
 have n1:¬ (wlt a b=true):=by rw [h];simp
 have n2:¬ (wlt b a=true):=by rw [h'];simp
 rw [wlt_iff] at n1 n2
 have hl:a.length=b.length:=by lia
 have l1:¬ a<b:=fun z=>n1 (.inr ⟨hl,z⟩)
 have l2:¬ b<a:=fun z=>n2 (.inr ⟨hl.symm,z⟩)
 exact List.le_antisymm (List.not_lt.mp l2) (List.not_lt.mp l1)
end L6
namespace SX
open PySem PySem.Spec PyProof.Rows
noncomputable abbrev Es:=Array (Int × Value)
noncomputable def keyE (e:Int × Value):Str:=strOf e.2
noncomputable def keys (es:Es):List Str:=es.toList.map keyE
noncomputable def byT (w:World):Bool:=w.params.followText "set-order"
structure Sx (w:World) (h:Heap) (a:Addr) (es:Es) (ep:Nat) (t:SetTable):Prop where
 at_:∃ o,h.get? a=some o/\o.ExactSet/\o.data = .set es ep t
 lt:es.size<scanBound
 fit:t.fits es.size=true
 led:t.led = !byT w
 pl:1<es.size->t.plain=false
structure Tx (P:Program) (w:World) (h:Heap) (a:Addr) (es:Es) (ep:Nat) (t:SetTable):Prop extends Sx w h a es ep t where
 el:ElemsOf (PySem.strKind P w) es.toList
 nd:(keys es).Nodup
theorem zyg (t:SetTable) (es:Es) (h:Int) (x:Value):(layNew t es h x).2.1.led=t.led:=by
 unfold layNew
 cases t.freeSlot h with
 | none=>rfl
 | some p =>
   obtain ⟨j,d⟩:=p
   show ((t.put j).1.orStandIn _).led=t.led
   unfold SetTable.orStandIn
   split <;> rfl
theorem zzu (t:SetTable) (es:Es) (n:Nat):(relayAll t es n).2.1.led=t.led/\(t.plain=false->(relayAll t es n).2.1.plain=false):=by
 unfold relayAll
 cases e:t.relaid (es.map (·.1)) n with
 | none=>exact ⟨rfl,fun _=>rfl⟩
 | some p =>
   obtain ⟨t',ord⟩:=p
   have:t'.led=t.led/\t'.plain=t.plain:=by
    unfold SetTable.relaid SetTable.laid at e
    cases q:SetTable.layClean (SetTable.sizeAbove n - 1) (es.map (·.1)) with
    | none=>rw [q] at e;cases e
    | some o=>rw [q] at e;cases e;exact ⟨rfl,rfl⟩
   dsimp only
   split
   ·exact ⟨this.1,fun h=>this.2.trans h⟩
   ·exact ⟨rfl,fun _=>rfl⟩
section
variable {P : Program} {w : World} {A : Around} {E : Value → Shared → Prop} {s : Shared}
theorem zrr {e:Int × Value} (h:∃ k,(PySem.strKind P w).is k e.2=true/\e.1=(PySem.strKind P w).hash k) (k:Str):(PySem.strKind P w).is k e.2=true↔keyE e=k:=by
 obtain ⟨k',hk,_⟩:=h
 obtain ⟨i,v⟩:=e
 obtain ⟨t,ev⟩:=Value.isStrOf_shape hk
 subst ev
 show Value.isStrOf k (.str k' t)=true↔k'=k
 constructor
 ·intro h
  exact (PySem.strKind P w).inj (.str k' t) _ _ hk h
 ·rintro rfl
  exact hk
theorem Tx.put {a:Addr} {es es':Es} {ep:Nat} {t t':SetTable} (S:Tx P w s.heap a es ep t) (el:ElemsOf (PySem.strKind P w) es'.toList) (nd:(keys es').Nodup) (lt:es'.size<scanBound) (fit:t'.fits es'.size=true) (led:t'.led = !byT w) (pl:t'.plain=false)
 {Q:Unit->Shared->Prop} (h:∀ h',Heap.SameBut a s.heap h'->Tx P w h' a es' (ep+1) t'->Q () { s with heap:=h' }):wpAny (model P w) A (storeSet a es' t') Q E s:=by
 obtain ⟨o,ho,hx,hd⟩:=S.at_
 refine wpAny_storeSet_of ho hd (h _ (.update ..) ⟨⟨⟨{ o with data := .set es' (ep+1) t' },?_,hx,rfl⟩,lt,fit,led,fun _=>pl⟩,el,nd⟩) (fits_of_scanBound lt)
 have:=Heap.get?_update_self (Obj.putSet es' t') ho (by rw [putSet_of es' t' hd];rfl)
 rw [putSet_of es' t' hd] at this
 exact this
theorem zua {es es':Es} (p:es'.toList.Perm es.toList):es'.size=es.size:=by simpa using p.length_eq
theorem zkd {es es':Es} (p:es'.toList.Perm es.toList):(keys es').Perm (keys es):=p.map _
theorem Tx.add {a:Addr} {es:Es} {ep:Nat} {t:SetTable} {x:Str} {tk:Tok} {Q:Bool->Shared->Prop} (S:Tx P w s.heap a es ep t) (hr:es.size+1<scanBound)
 (h:∀ b h' es' ep' t',Heap.SameBut a s.heap h'->Tx P w h' a es' ep' t'->(∀ k,k ∈ keys es'↔k ∈ keys es\/k=x)->es'.size<=es.size+1->Q b { s with heap:=h' }) :
 wpAny (model P w) A (setAddHashed a (.str x tk) (hashStr w x)) Q E s:=by
 have hk:(PySem.strKind P w).is x (.str x tk)=true:=by show Value.isStrOf x (.str x tk)=true;simp [Value.isStrOf]
 obtain ⟨o,ho,hx,hd⟩:=S.at_
 have gw:∀ (b:Bool) (s₁:Shared) (Q':Unit->Shared->Prop),Q' () s₁->wpAny (model P w) A (match b with | true=>rule "set.scan.the-table-gave-way" | false=>pure ()) Q' E s₁:=fun b s₁ Q' q=>by
  cases b
  ·exact wpAny_pure q
  ·exact wpAny_rule q
 unfold setAddHashed setAddHashedIn
 refine wpAny_holding (wpAny_bind (wpAny_setState_of ho hd S.fit ?_))
 dsimp only
 rw [if_pos (byScan_of rfl S.lt S.el)]
 unfold setAddByScan
 refine wpAny_bind (wpAny_bind (wpAny_rule (wpAny_bind (wpAny_setScan_of (knd:=PySem.strKind P w) hk ho hd S.fit S.el ?_))))
 cases hf:es.toList.findIdx? (fun e=>(PySem.strKind P w).is x e.2) with
 | some j =>
   obtain ⟨hj,hp,_⟩:=List.findIdx?_eq_some_iff_getElem.mp hf
   have hm:x ∈ keys es:=List.mem_map.mpr ⟨_,List.getElem_mem hj,(zrr (S.el _ (List.getElem_mem hj)).1 x).mp hp⟩
   refine wpAny_pure (wpAny_pure ?_)
   exact h false s.heap es ep t (.refl ..) S (fun k=>⟨.inl,fun z=>z.elim id fun z=>z ▸ hm⟩) (Nat.le_succ _)
 | none =>
   have hm:x ∉ keys es:=fun hm=>by
    obtain ⟨e,he,hk'⟩:=List.mem_map.mp hm
    have:=List.findIdx?_eq_none_iff.mp hf e he
    rw [(zrr (S.el e he).1 x).mpr hk'] at this
    cases this
   have hp:=layNew_perm t es (hashStr w x) (.str x tk)
   have hfit:=layNew_fits t es (hashStr w x) (.str x tk)
   have hled:=zyg t es (hashStr w x) (.str x tk)
   generalize layNew t es (hashStr w x) (Value.str x tk)=L at hp hfit hled ⊢
   obtain ⟨e1,t1,wd,gv⟩:=L
   dsimp only at hp hfit hled ⊢
   rw [Array.toList_push] at hp
   have el1:ElemsOf (PySem.strKind P w) e1.toList:=(S.el.push (k:=x) (x := .str x tk) hk rfl).perm hp
   have kp:(keys e1).Perm (keys es ++ [x]):=by
    have:=hp.map keyE
    rw [List.map_append] at this
    exact this
   have nd1:(keys e1).Nodup:=kp.nodup_iff.mpr (List.nodup_append.mpr ⟨S.nd,(by simp),fun a ha b hb=>by
    rw [List.mem_singleton] at hb
    subst hb
    exact fun z=>hm (z ▸ ha)⟩)
   have mem1:∀ k,k ∈ keys e1↔k ∈ keys es\/k=x:=fun k=>by rw [kp.mem_iff,List.mem_append,List.mem_singleton]
   have sz1:e1.size=es.size+1:=by simpa using hp.length_eq
   have lt1:e1.size<scanBound:=by lia
   refine wpAny_bind (gw _ _ _ ?_)
   have fin:∀ t2:SetTable,t2.fits e1.size=true->t2.led=t.led->t2.plain=false->wpAny (model P w) A (do
    storeSet a e1 t2
    if (!wd && t2.tooFull)=true then do
        (match (relayAll t2 e1 (SetTable.grown e1.size)).2.2 with | true=>rule "set.scan.the-table-gave-way" | false=>pure ())
        storeSet a (relayAll t2 e1 (SetTable.grown e1.size)).1 (relayAll t2 e1 (SetTable.grown e1.size)).2.1
        pure (some true)
     else pure (some true)) (fun r s₁=>wpAny (model P w) A (match r with | some b=>pure b | none=>setAddHashedIn a (.str x tk) (hashStr w x) 99999) Q E s₁) E s:=fun t2 f2 l2 p2=>by
    refine wpAny_bind (S.put el1 nd1 lt1 f2 (l2.trans S.led) p2 fun h1 sb1 S1=>?_)
    cases hw:(!wd && t2.tooFull) with
    | false=>exact wpAny_pure (wpAny_pure (h true h1 e1 _ t2 sb1 S1 mem1 (Nat.le_of_eq sz1)))
    | true =>
      have rp:=relayAll_perm t2 e1 (SetTable.grown e1.size)
      have rf:=relayAll_fits t2 e1 (SetTable.grown e1.size)
      have rl:=zzu t2 e1 (SetTable.grown e1.size)
      generalize relayAll t2 e1 (SetTable.grown e1.size)=R at rp rf rl ⊢
      obtain ⟨e2,t3,g2⟩:=R
      dsimp only at rp rf rl ⊢
      refine wpAny_bind (gw _ _ _ ?_)
      have z2:=zua rp
      refine wpAny_bind (S1.put (s:={ s with heap:=h1 }) (el1.perm rp) ((zkd rp).nodup_iff.mpr nd1) (by lia) rf (rl.1.trans (l2.trans S.led)) (rl.2 p2) fun h2 sb2 S2=>?_)
      exact wpAny_pure (wpAny_pure (h true h2 e2 _ t3 (sb1.trans sb2) S2 (fun k=>by rw [(zkd rp).mem_iff];exact mem1 k) (by lia)))
   split
   ·rename_i hpl
    refine wpAny_bind ?_
    rw [hashByValue_scannable 8 (x := .str x tk) rfl]
    refine wpAny_pure ?_
    exact fin { t1 with plain:=false } (SetTable.fits_plain_off hfit) hled rfl
   ·rename_i hpl
    refine wpAny_bind (wpAny_pure ?_)
    exact fin t1 hfit hled (by simpa using hpl)
end
end SX
namespace SX
open PySem PySem.Spec PyProof.Rows
section
variable {P : Program} {w : World} {A : Around} {R : Result → Shared → Prop} {I : Addr} {fp wr : List Addr} {G : Array GenState → Array GenState → Prop} {n : Nat} {Pv : Nat → Value → Prop} {St : Nat → Shared → Prop}
theorem Sx.keep {h h':Heap} {a:Addr} {es:Es} {ep:Nat} {t:SetTable} (S:Sx w h a es ep t) (k:∀ o,h.get? a=some o->h'.get? a=some o):Sx w h' a es ep t :=
 { S with at_:=let ⟨o,e,r⟩:=S.at_; ⟨o,k o e,r⟩ }
theorem Tx.keep {h h':Heap} {a:Addr} {es:Es} {ep:Nat} {t:SetTable} (S:Tx P w h a es ep t) (k:∀ o,h.get? a=some o->h'.get? a=some o):Tx P w h' a es ep t :=
 ⟨S.toSx.keep k,S.el,S.nd⟩
theorem zyi (W:WalksS P w A.in1 I fp wr G n Pv St) (S:Addr) (hS:S ∉ fp) (val:Nat->Str) (hval:∀ i v,Pv i v->∃ t,v = .str (val i) t) (hb:n+1<scanBound) :
 ∀ (m i:Nat) (s:Shared) (es:Es) (ep:Nat) (t:SetTable),n - i=m->i<=n->St i s->Tx P w s.heap S es ep t->(∀ x,x ∈ keys es↔∃ j,j<i/\val j=x)->es.size<=i ->
   (∀ s' es' ep' t',Moved (S::wr) G s s'->Tx P w s'.heap S es' ep' t'->(∀ x,x ∈ keys es'↔∃ j,j<n/\val j=x)->R (.ok (.ret .none)) s') ->
   codeAny (model P w) A (.builtin "set.update.loop" ⟨[.ref S,.ref I],[]⟩) R s:=by
 have nw:S ∉ wr:=fun z=>hS (W.sub _ z)
 have up:∀ b ∈ wr,b ∈ S::wr:=fun b z=>List.mem_cons_of_mem _ z
 intro m
 induction m with
 | zero =>
   intro i s es ep t hm hi st T hk _ k
   obtain rfl:i=n:=by lia
   refine codeAny_builtin F.entry_set_update_loop ?_
   rw [Around.under_plainId F.plain_set_update_loop _]
   refine wpAny_bind (W.done s _ _ st fun s' mv=>wpAny_pure ?_)
   exact k s' es ep t (mv.mono up) (T.keep fun o e=>mv.heap S o nw e) hk
 | succ m ih =>
   intro i s es ep t hm hi st T hk hz k
   have hlt:i<n:=by lia
   refine codeAny_builtin F.entry_set_update_loop ?_
   rw [Around.under_plainId F.plain_set_update_loop _]
   refine wpAny_bind (W.item i s _ _ hlt st fun v s' pv st' mv=>?_)
   obtain ⟨tk,rfl⟩:=hval i v pv
   have T1:Tx P w s'.heap S es ep t:=T.keep fun o e=>mv.heap S o nw e
   refine wpAny_bind (m:=holding [Value.str (val i) tk] (setAdd S (.str (val i) tk))) (wpAny_holding ?_)
   unfold setAdd
   refine wpAny_holding (wpAny_bind ((PySem.strKind P w).pyHash (k:=val i) (by show Value.isStrOf (val i) (.str (val i) tk)=true;simp [Value.isStrOf]) ?_))
   refine Tx.add (s:={ s' with toks:=s'.toks+1 }) (x:=val i) T1 (by lia) fun b h' es' ep' t' sb T2 hk' hz'=>?_
   refine wpAny_pure ⟨plainId_quiet F.plain_set_update_loop _,ih (i+1) _ es' ep' t' (by lia) hlt (W.frame _ s' _ _ st' (Nat.le_succ _) fun b hb o e=>?_) T2 (fun x=>?_) (by lia) fun s'' e2 p2 t2 mv2 T3 hk3=>?_⟩
   ·rw [sb.2 b (fun z:b=S=>hS (z ▸ hb))]
    exact e
   ·rw [hk',hk]
    constructor
    ·rintro (⟨j,h1,h2⟩ | rfl)
     ·exact ⟨j,by lia,h2⟩
     ·exact ⟨i,by lia,rfl⟩
    ·rintro ⟨j,h1,h2⟩
     by_cases hj:j=i
     ·subst hj
      exact .inr h2.symm
     ·exact .inl ⟨j,by lia,h2⟩
   ·refine k s'' e2 p2 t2 (.trans W.gtrans ((mv.mono up).then_heap (Nat.le_succ _) fun b o hb e=>?_) mv2) T3 hk3
    rw [sb.2 b (fun z:b=S=>hb (z ▸ List.mem_cons_self))]
    exact e
end
section
variable {P : Program} {w : World} {A : Around} {E : Value → Shared → Prop} {s : Shared}
noncomputable abbrev eObj (w:World):Obj:={ cls := .type "set", dict:=none,data := .set #[] 0 (.fresh 0 0 (!byT w)) }
theorem z0p {h:Heap} {a:Addr} (e:h.get? a=some (eObj w)):Tx P w h a #[] 0 (.fresh 0 0 (!byT w)) :=
 ⟨⟨⟨_,e,⟨rfl,rfl,rfl⟩,rfl⟩,by decide,rfl,rfl,fun z=>absurd z (by decide)⟩,fun _ z=>by simp at z,by simp [keys]⟩
theorem zpp (v:Value) {Q:Value->Shared->Prop} (h:Q (.ref s.heap.objs.size) { s with heap:=s.heap.push (eObj w) }) :
 codeAny (model P w) A (.call (.builtin "set.__new__") ⟨[.type "set", v],[]⟩) (wants Q E) s:=by
 refine codeAny_of_tree ?_
 refine wpAny_bind (m:=checkBuiltinCall "set.__new__" ⟨[.type "set", v],[]⟩) (wpAny_of_eq (F.newCall_set_1 v) (wpAny_pure ⟨plainId_quiet F.plain_set_new _,codeAny_builtin F.entry_set_new ?_⟩))
 rw [Around.under_plainId F.plain_set_new _]
 unfold Builtin.«set.__new__» Builtin.Frozenset.newClass
 have hsub:=sub_set_self
 obtain ⟨hp,g,d,tk,os⟩:=s
 dsimp only
 wp_walk
 refine wpAny_askSetting (wpAny_pure ?_)
 dsimp only
 simp only [newObj]
 refine wpAny_bind (wpAny_alloc (wpAny_pure ?_))
 exact wpAny_pure h
end
end SX
namespace SX
open PySem PySem.Spec PyProof.Rows
section
variable {P : Program} {w : World} {A : Around} {E : Value → Shared → Prop} {s : Shared}
noncomputable abbrev Ext (h h':Heap):Prop:=∀ b o,h.get? b=some o->h'.get? b=some o
noncomputable def Src (P:Program) (w:World) (h:Heap) (v:Value) (n:Nat) (Pv:Nat->Value->Prop):Prop :=
 ∀ (A:Around) (E:Value->Shared->Prop) (s₁:Shared) (Q:Value->Shared->Prop),A.handled=none->Ext h s₁.heap ->
   (∀ I h' fp St,(∀ A':Around,A'.handled=none->Walks P w A' I fp [I] n Pv St)->St 0 h'->Ext s₁.heap h'->(∀ b ∈ fp,b<h.objs.size\/s₁.heap.objs.size<=b)->s₁.heap.objs.size<=I->Q (.ref I) { s₁ with heap:=h' }) ->
   wpAny (model P w) A (pyIter v) Q E s₁
theorem zku {v:Value} {T:String} {n:Nat} {Pv:Nat->Value->Prop} {val:Nat->Str} {Q:Value->Shared->Prop} (hh:A.handled=none) (hT:∀ s₁:Shared,Ext s.heap s₁.heap->s₁.TypeIs v T)
 (h1:isSubtype (.type T) (.type "set")=pure false) (h2:isSubtype (.type T) (.type "frozenset")=pure false) (h3:(Value.type T == Value.type "dict")=false) (src:Src P w s.heap v n Pv)
 (hval:∀ i v,Pv i v->∃ t,v = .str (val i) t) (hb:n+1<scanBound)
 (k:∀ h' tk es ep t,Tx P w h' s.heap.objs.size es ep t->(∀ x,x ∈ keys es↔∃ j,j<n/\val j=x)->Ext s.heap h'->Q (.ref s.heap.objs.size) { s with heap:=h',toks:=tk }) :
 wpAny (model P w) A (call (.type "set") [v]) Q E s:=by
 obtain ⟨c,tl,hmro⟩:=F.called_set.mro
 have hmade:=F.called_set.made
 have hsub:=F.called_set.sub
 refine wpAny_call (codeAny_of_tree ?_)
 show wpAny _ _ (callAny (.type "set") _) _ _ _
 refine wpAny_pure ⟨Code.quiet_builtin _ (by decide +kernel),codeAny_builtin F.entry_type_call ?_⟩
 rw [Around.under_plain (weight_type_call_type "set" [v] []) rfl]
 have c1:=F.called_set.notType
 have c2:=F.called_set.canCreate
 have c3:=F.typeCall_set_1 v
 repeat (any_goals (first | assumption | wp_step))
 refine codeAny_mono (zpp v (E:=E) (Q:=fun r s₁=>r = .ref s.heap.objs.size/\s₁ = { s with heap:=s.heap.push (eObj w) }) ⟨rfl,rfl⟩) fun r s₁ hr=>?_
 cases r with
 | error e=>exact hr
 | ok fl =>
   cases fl with
   | ret obj =>
     obtain ⟨rfl,rfl⟩:=hr
     have eS:(s.heap.push (eObj w)).get? s.heap.objs.size=some (eObj w):=Heap.get?_push_size _ rfl
     have hS:Shared.TypeIs { s with heap:=s.heap.push (eObj w) } (.ref s.heap.objs.size) "set" := ⟨_,eS,rfl⟩
     have c4:=F.called_set.init.lookup
     have c5:=F.called_set.init.bind (.ref s.heap.objs.size)
     repeat (any_goals (first | assumption | wp_step))
     refine codeAny_mono (codeAny_call_builtin (R:=wants (fun r s₂=>r = .none/\∃ h' tk es ep t,s₂ = { s with heap:=h',toks:=tk }/\Tx P w h' s.heap.objs.size es ep t/\(∀ x,x ∈ keys es↔∃ j,j<n/\val j=x)/\Ext s.heap h') E) F.called_set.init.plain F.entry_set_init (check_set_init_1 hS ?_)) fun r₂ s₂ hr₂=>?_
     ·have e0:Ext s.heap (s.heap.push (eObj w)):=fun b o e=>Heap.get?_push_of_some _ e
      have hTv:=hT { s with heap:=s.heap.push (eObj w) } e0
      unfold Builtin.«set.__init__» noKeywords Builtin.Frozenset.updateFrom
      generalize hPI:pyIter=PI
      wp_walk
      subst hPI
      have lt0:s.heap.objs.size<(s.heap.push (eObj w)).objs.size:=by rw [Heap.size_push];exact Nat.lt_succ_self _
      refine src _ _ _ _ (by simpa using hh) e0 fun I h' fp St W st ex fpb hI=>?_
      refine wpAny_bind (wpAny_runValue ?_)
      have nS:s.heap.objs.size ∉ fp:=fun z=>by
       rcases fpb _ z with y | y
       ·exact Nat.lt_irrefl _ y
       ·exact absurd lt0 (Nat.not_lt.mpr y)
      refine zyi (W _ (by simpa using hh)).toS s.heap.objs.size nS val hval hb n 0 _ #[] 0 _ rfl (Nat.zero_le _) st (z0p (ex _ _ eS)) (fun x=>by simp [keys]) (Nat.le_refl _) fun s' es ep t mv T hk=>?_
      obtain ⟨h2,g2,d2,tk2,os2⟩:=s'
      obtain rfl:g2=s.gens:=mv.gens
      obtain rfl:d2=s.drawn:=mv.drawn
      obtain rfl:os2=s.os:=mv.os
      show wpAny _ _ _ _ _ _
      refine wpAny_pure (wpAny_pure ⟨rfl,h2,tk2,es,ep,t,rfl,T,hk,fun b o e=>mv.heap b o (fun z=>?_) (ex b o (e0 b o e))⟩)
      have hbl:=Heap.lt_size e
      rcases List.mem_cons.mp z with z | z
      ·exact Nat.ne_of_lt hbl z
      ·rw [List.mem_singleton.mp z] at hbl
       exact absurd hbl (Nat.not_lt.mpr (Nat.le_trans (Nat.le_of_lt lt0) hI))
     ·cases r₂ with
      | error e=>exact hr₂
      | ok fl₂ =>
        cases fl₂ with
        | ret r =>
          obtain ⟨rfl,h',tk,es,ep,t,rfl,T,hk,ex⟩:=hr₂
          repeat (any_goals (first | assumption | wp_step))
          exact k _ _ _ _ _ T hk ex
        | _=>exact hr₂.elim
   | _=>exact hr.elim
end
end SX
namespace SX
open PySem PySem.Spec PyProof.Rows
theorem nx_slot:Slot "set_iterator" "__next__" "set_iterator.__next__" := by
 refine Slot.of (owner := "set_iterator") (n := "__next__") ?_ (by decide +kernel) (by decide +kernel) (by decide +kernel) ?_ ?_
 ·rw [typeLookup_type,builtinLookup_eq_fast]
  kernel_rfl
 ·first
   | exact .inl (by decide +kernel)
   | exact .inr (by decide +kernel)
 ·rw [isSubtype_type]
  kernel_rfl
theorem zph:Slot "set_iterator" "__iter__" "set_iterator.__iter__" := by
 refine Slot.of (owner := "set_iterator") (n := "__iter__") ?_ (by decide +kernel) (by decide +kernel) (by decide +kernel) ?_ ?_
 ·rw [typeLookup_type,builtinLookup_eq_fast]
  kernel_rfl
 ·first
   | exact .inl (by decide +kernel)
   | exact .inr (by decide +kernel)
 ·rw [isSubtype_type]
  kernel_rfl
theorem zmk:entryFor table "set_iterator.__next__" = some Builtin.«set_iterator.__next__»:=by
 refine entryFor_of_tree ?_
 kernel_rfl
theorem zvr:entryFor table "set_iterator.__iter__" = some Builtin.«dict_keyiterator.__iter__»:=by
 refine entryFor_alias (id' := "dict_keyiterator.__iter__") ?_ rfl ?_ ?_
 ·kernel_rfl
 ·decide +kernel
 ·kernel_rfl
theorem zj9:entryFor table "set.__iter__" = some Builtin.«frozenset.__iter__»:=by
 refine entryFor_alias (id' := "frozenset.__iter__") ?_ rfl ?_ ?_
 ·kernel_rfl
 ·decide +kernel
 ·kernel_rfl
theorem znv:Manifest.owners.lookup (String.ofList ['r','o','t','a','r','e','t','i','_','t','e','s'].reverse)=some Manifest.sig_set_iterator:=by kernel_rfl
theorem zpm (a:Value):argsOk "set_iterator.__next__" ⟨[a],[]⟩:=by
 unfold argsOk
 rw [signature?_of (id := "set_iterator.__next__") (n := ['_','_','t','x','e','n','_','_']) (o := ['r','o','t','a','r','e','t','i','_','t','e','s']) (by kernel_rfl) znv]
 kernel_rfl
theorem zxl (a:Value):argsOk "set_iterator.__iter__" ⟨[a],[]⟩:=by
 unfold argsOk
 rw [signature?_of (id := "set_iterator.__iter__") (n := ['_','_','r','e','t','i','_','_']) (o := ['r','o','t','a','r','e','t','i','_','t','e','s']) (by kernel_rfl) znv]
 kernel_rfl
theorem zfd {α:Type}:∀ {l:List α} {i:Nat} (h:i<l.length),(l[i]::l.eraseIdx i).Perm l
 | [],_,h=>absurd h (Nat.not_lt_zero _)
 | x::l,0,_ => .refl _
 | x::l,i+1,h=>(List.Perm.swap x _ _).trans ((zfd (l:=l) (i:=i) (Nat.lt_of_succ_lt_succ h)).cons x)
theorem zpf {α:Type} (f:Nat->Nat):∀ (m k:Nat) (l:List α) (out:Array α),l.length=m->(pickOrder.go f m k l out).toList.Perm (out.toList++l)
 | 0,k,l,out,h=>by
   obtain rfl:l = []:=by cases l with | nil=>rfl | cons _ _=>simp at h
   simp [pickOrder.go]
 | m+1,k,l,out,h=>by
   have hi:f k % l.length<l.length:=Nat.mod_lt _ (by lia)
   unfold pickOrder.go
   rw [List.getElem?_eq_getElem hi]
   refine (zpf f m (k+1) (l.eraseIdx (f k % l.length)) (out.push l[f k % l.length]) (by rw [List.length_eraseIdx];simp [hi];lia)).trans ?_
   rw [Array.toList_push,List.append_assoc]
   refine List.Perm.append_left _ ?_
   exact zfd hi
theorem zst {α:Type} (f:Nat->Nat) (xs:Array α):(pickOrder f xs).toList.Perm xs.toList:=by
 simpa [pickOrder] using zpf f xs.size 0 xs.toList #[] (by simp)
end SX
namespace SX
open PySem PySem.Spec PyProof.Rows
section
variable {P : Program} {w : World} {A : Around} {E : Value → Shared → Prop} {s : Shared} {α : Type}
theorem zty {src:Source} {n:Nat} {Q:Nat->Shared->Prop} (hn:n ≠ 0) (h:∀ i d,i<n->Q i { s with drawn:=d }):wpAny (model P w) A (choose src n) Q E s:=fun Γ p _ =>
 ⟨hn,h _ _ (Nat.mod_lt _ (Nat.pos_of_ne_zero hn))⟩
theorem zpe:∀ (m:Nat) (xs:List α) (s:Shared) (Q:List α->Shared->Prop),xs.length=m->(∀ ys d,ys.Perm xs->Q ys { s with drawn:=d })->wpAny (model P w) A (drawOrder m xs) Q E s
 | 0,xs,s,Q,e,h=>by
   obtain rfl:xs = []:=List.length_eq_zero_iff.mp e
   exact wpAny_pure (h [] s.drawn .nil)
 | m+1,[],s,Q,e,h=>by cases e
 | m+1,x::xs,s,Q,e,h=>by
   unfold drawOrder
   refine wpAny_bind (zty (by simp) fun i d hi=>?_)
   rw [List.getElem?_eq_getElem hi]
   refine wpAny_bind (zpe m _ _ _ (by rw [List.length_eraseIdx,if_pos hi];simpa using e) fun ys d2 hp=>?_)
   exact wpAny_pure (h _ d2 ((hp.cons _).trans (zfd hi)))
theorem wp_f {c:Prop} [Decidable c] {a b:Sem α} {Q:α->Shared->Prop} (hc:¬ c) (h:wpAny (model P w) A b Q E s):wpAny (model P w) A (if c then a else b) Q E s:=by
 rw [if_neg hc]
 exact h
theorem wp_t {c:Prop} [Decidable c] {a b:Sem α} {Q:α->Shared->Prop} (hc:c) (h:wpAny (model P w) A a Q E s):wpAny (model P w) A (if c then a else b) Q E s:=by
 rw [if_pos hc]
 exact h
theorem zi8 {Q:Bool->Shared->Prop} (h:Q (byT w) s):wpAny (model P w) A setsByText Q E s:=by
 unfold setsByText
 exact wpAny_bind (wpAny_askSetting (wpAny_pure h))
theorem Sx.state {a:Addr} {es:Es} {ep:Nat} {t:SetTable} {Q:(Es × Nat × SetTable)->Shared->Prop} (S:Sx w s.heap a es ep t) (h:Q (es,ep,t) s):wpAny (model P w) A (setState a) Q E s :=
 let ⟨_,ho,_,hd⟩:=S.at_
 wpAny_setState_of ho hd S.fit h
theorem Sx.entries {a:Addr} {es:Es} {ep:Nat} {t:SetTable} {Q:Es->Shared->Prop} (S:Sx w s.heap a es ep t) (h:Q es s):wpAny (model P w) A (setEntries a) Q E s :=
 let ⟨_,ho,_,hd⟩:=S.at_
 wpAny_setEntries_of ho hd S.fit h
theorem Sx.epoch {a:Addr} {es:Es} {ep:Nat} {t:SetTable} {Q:Nat->Shared->Prop} (S:Sx w s.heap a es ep t) (h:Q ep s):wpAny (model P w) A (setEpoch a) Q E s :=
 let ⟨_,ho,_,hd⟩:=S.at_
 wpAny_setEpoch_of ho hd S.fit h
noncomputable abbrev itO (first:Value) (i:Nat) (S:Addr) (n ep:Nat):Obj:={ cls := .type "set_iterator", dict:=none,data := .fields #[first,.int i 0,.ref S,.int n 0,.int ep 0],slots:=#[] }
theorem zpn {Z:α->Shared->Prop} {R:Option Value->Shared->Prop} (hh:A.handled=none) (h:∀ h',Ext s.heap h'->R none { s with heap:=h' }) :
 wpAny (model P w) A.in1 (do raiseNew (<- newExc (.type "StopIteration") [])) Z (fun e s₁=>wpAny (model P w) A (do if <- isInstance e (.type "StopIteration") then pure none else throw e) R E s₁) s:=by
 refine wpAny_bind ?_
 simp only [newExc,newTuple]
 refine wpAny_bind (wpAny_newObj_type ?_ (by size_fits))
 refine wpAny_bind (m:=firstArgMember _ _) (wpAny_of_eq (a:=Value.none) (by first | rfl | (simp only [firstArgMember];rfl)) ?_)
 refine wpAny_newObj_type ?_ (by size_fits)
 simp only [raiseNew]
 refine wpAny_bind (wpAny_handled ?_)
 rw [show A.in1.handled=none from hh]
 refine wpAny_bind (wpAny_pure (wpAny_throw ?_))
 refine wpAny_bind (wpAny_isInstance (T := "StopIteration") (b:=true) ⟨_,Heap.get?_push_size _ rfl,rfl⟩ isSubtype_stop ?_)
 exact wpAny_pure (h _ fun b o e=>Heap.get?_push_of_some _ (Heap.get?_push_of_some _ e))
end
end SX
namespace TB
open PySem PySem.SetTable
noncomputable def cc:Nat->Nat
 | 0=>0
 | n+1=>5 * cc n+1
noncomputable def gg (n x:Nat):Nat:=5 ^ n * x+cc n
theorem zlz:∀ n,4 * cc n+1=5 ^ n
 | 0=>rfl
 | n+1=>by rw [cc,Nat.pow_succ,<- zlz n];lia
theorem zr9 (a b:Nat):cc (a+b)=5 ^ a * cc b+cc a:=by
 induction a with
 | zero=>simp [cc]
 | succ a ih =>
   rw [show a+1+b=(a+b)+1 by lia,cc,ih,cc,Nat.pow_succ,Nat.mul_add,Nat.mul_right_comm]
   lia
theorem zrq (a b x:Nat):gg (a+b) x=gg a (gg b x):=by
 unfold gg
 rw [zr9,Nat.pow_add,Nat.mul_add,Nat.mul_assoc,Nat.add_assoc]
theorem zsm:∀ m,∃ q,cc (2 ^ m)=2 ^ m * (2 * q+1)
 | 0=>⟨0,rfl⟩
 | m+1=>by
   obtain ⟨q,e⟩:=zsm m
   have h1:cc (2 ^ (m+1))=cc (2 ^ m) * (4 * cc (2 ^ m)+2):=by
    rw [show 2 ^ (m+1)=2 ^ m+2 ^ m by rw [Nat.pow_succ];lia,zr9,<- zlz]
    have:(4 * cc (2 ^ m)+1) * cc (2 ^ m)=cc (2 ^ m) * (4 * cc (2 ^ m)+1):=Nat.mul_comm _ _
    rw [this,Nat.mul_add,Nat.mul_add]
    lia
   refine ⟨q+(2 * q+1) * cc (2 ^ m),?_⟩
   rw [h1,show 4 * cc (2 ^ m)+2=2 * (2 * cc (2 ^ m)+1) by lia,<- Nat.mul_assoc]
   generalize hc:cc (2 ^ m)=c at *
   have h2:2 * (q+(2 * q+1) * c)+1=(2 * q+1) * (2 * c+1):=by
    rw [Nat.mul_add (2 * q+1),Nat.mul_left_comm (2 * q+1) 2 c]
    lia
   rw [h2,<- Nat.mul_assoc,Nat.pow_succ,Nat.mul_right_comm (2 ^ m) 2,<- e]
theorem come:∀ (m x y:Nat),∃ n,n<2 ^ m/\gg n x % 2 ^ m=y % 2 ^ m
 | 0,x,y=>⟨0,by simp,by simp [Nat.mod_one]⟩
 | m+1,x,y=>by
   obtain ⟨n,hn,e⟩:=come m x y
   have h2:2 ^ (m+1)=2 * 2 ^ m:=by rw [Nat.pow_succ];lia
   by_cases he:gg n x % 2 ^ (m+1)=y % 2 ^ (m+1)
   ·exact ⟨n,by lia,he⟩
   ·refine ⟨2 ^ m+n,by lia,?_⟩
    rw [zrq]
    obtain ⟨q,hq⟩:=zsm m
    have h3:gg (2 ^ m) (gg n x)=gg n x+2 ^ m+2 ^ (m+1) * (2 * (2 * q+1) * gg n x+q):=by
     unfold gg
     rw [<- zlz,hq,h2]
     generalize 5 ^ n * x+cc n=z
     generalize 2 ^ m=M
     rw [Nat.mul_add 2 (2 * q) 1,Nat.mul_add M (2 * q) 1,Nat.mul_add (2 * M)]
     have a1:(4 * (M * (2 * q)+M * 1)+1) * z=8 * (M * q * z)+4 * (M * z)+z:=by
      rw [Nat.add_mul,Nat.one_mul,Nat.mul_assoc,Nat.add_mul,Nat.mul_one,Nat.mul_add]
      have:M * (2 * q) * z=2 * (M * q * z):=by rw [Nat.mul_left_comm,Nat.mul_assoc]
      rw [this]
      lia
     have a2:2 * M * ((2 * (2 * q)+2 * 1) * z)=8 * (M * q * z)+4 * (M * z):=by
      rw [Nat.add_mul,Nat.mul_add]
      have b1:2 * M * (2 * (2 * q) * z)=8 * (M * q * z):=by
       rw [show 2 * (2 * q)=4 * q by lia,Nat.mul_assoc 4,Nat.mul_left_comm (2 * M),Nat.mul_assoc 2 M,<- Nat.mul_assoc M q z]
       lia
      have b2:2 * M * (2 * 1 * z)=4 * (M * z):=by
       rw [Nat.mul_one,Nat.mul_left_comm (2 * M),Nat.mul_assoc 2 M]
       lia
      rw [b1,b2]
     have a3:M * (2 * q)=2 * (M * q):=Nat.mul_left_comm ..
     have a4:2 * M * q=2 * (M * q):=Nat.mul_assoc ..
     rw [a1,a2,a3,a4]
     lia
    rw [h3,Nat.add_mul_mod_self_left]
    generalize gg n x=z at *
    have hM:0<2 ^ m:=Nat.pow_pos (by decide)
    rw [h2] at he ⊢
    generalize 2 ^ m=M at *
    have ez:=Nat.mod_mul (x:=z) (a:=M) (b:=2)
    have ey:=Nat.mod_mul (x:=y) (a:=M) (b:=2)
    have ew:=Nat.mod_mul (x:=z+M) (a:=M) (b:=2)
    rw [Nat.add_mod_right,Nat.add_div_right _ hM] at ew
    rw [Nat.mul_comm 2 M] at he ⊢
    have c1:z / M % 2 ≠ y / M % 2:=fun c=>he (by rw [ez,ey,e,c])
    rw [ew,ey,e]
    have c2:(z / M).succ % 2=y / M % 2:=by lia
    rw [c2]
end TB
namespace TB
open PySem PySem.SetTable
noncomputable def T0 (mask:Nat):SetTable:={ mask,place:=#[],dummies:=#[],finger:=0,led:=false,moves:=0,plain:=false }
noncomputable def sq (mask:Nat) (h:Int):Nat->Probe
 | 0=>(T0 mask).probeStart h
 | n+1=>(T0 mask).advance (sq mask h n)
noncomputable def lp (mask:Nat) (h:Int):Nat->Nat × Nat
 | 0=>(bits h % (mask+1),bits h)
 | k+1=>leap mask (lp mask h k).1 (lp mask h k).2
noncomputable def rs (mask:Nat) (q:Nat × Nat):Probe:={ j:=q.1,more:=runEnd mask q.1 - q.1,i:=q.1,perturb:=q.2,dummy:=none }
theorem zyw (mask i:Nat):runEnd mask i - i<=9:=by
 unfold runEnd
 split <;> lia
theorem zp4 {mask:Nat} {h:Int} {n:Nat} {q:Nat × Nat} (e:sq mask h n=rs mask q):∀ d,d<=runEnd mask q.1 - q.1->sq mask h (n+d) = { rs mask q with j:=q.1+d,more:=runEnd mask q.1 - q.1 - d }
 | 0,_=>by rw [Nat.add_zero,e];rfl
 | d+1,hd=>by
   rw [<- Nat.add_assoc]
   show (T0 mask).advance (sq mask h (n+d))=_
   rw [zp4 e d (by lia)]
   unfold SetTable.advance
   rw [if_pos (by show 0<runEnd mask q.1 - q.1 - d;lia)]
   show ({ rs mask q with j:=q.1+d+1,more:=runEnd mask q.1 - q.1 - d - 1 }:Probe)=_
   rw [show runEnd mask q.1 - q.1 - d - 1=runEnd mask q.1 - q.1 - (d+1) by lia]
   rfl
theorem zpj {mask:Nat} {h:Int} {n:Nat} {q:Nat × Nat} (e:sq mask h n=rs mask q):sq mask h (n+(runEnd mask q.1 - q.1)+1)=rs mask (leap mask q.1 q.2):=by
 show (T0 mask).advance (sq mask h (n+(runEnd mask q.1 - q.1)))=_
 rw [zp4 e _ (Nat.le_refl _)]
 unfold SetTable.advance
 rw [if_neg (by show ¬ 0<runEnd mask q.1 - q.1 - (runEnd mask q.1 - q.1);lia)]
 rfl
theorem zs3 (mask:Nat) (h:Int):∀ k,∃ n,n<=10 * k/\sq mask h n=rs mask (lp mask h k)
 | 0=>⟨0,Nat.le_refl _,rfl⟩
 | k+1=>by
   obtain ⟨n,hn,e⟩:=zs3 mask h k
   have:=zyw mask (lp mask h k).1
   exact ⟨_,by lia,zpj e⟩
theorem zy8 (h:Int):bits h<2 ^ 64:=by
 unfold bits
 lia
theorem zr2 (mask:Nat) (h:Int):∀ k,(lp mask h k).2=bits h / 32 ^ k
 | 0=>by simp [lp]
 | k+1=>by
   show (lp mask h k).2 / 32=_
   rw [zr2 mask h k,Nat.div_div_eq_div_mul,Nat.pow_succ]
theorem zyy (mask:Nat) (h:Int) {k:Nat} (hk:12<=k):(lp mask h k).2 / 32=0:=by
 rw [zr2,Nat.div_div_eq_div_mul,<- Nat.pow_succ]
 refine Nat.div_eq_of_lt (Nat.lt_of_lt_of_le (zy8 h) ?_)
 exact Nat.le_trans (by decide:2 ^ 64<=32 ^ 13) (Nat.pow_le_pow_right (by decide) (by lia))
theorem zqk (mask:Nat) (h:Int):∀ n,(lp mask h (12+n)).1 % (mask+1)=gg n (lp mask h 12).1 % (mask+1)
 | 0=>by simp [gg,cc]
 | n+1=>by
   show ((lp mask h (12+n)).1 * 5+1+(lp mask h (12+n)).2 / 32) % (mask+1) % (mask+1)=_
   rw [zyy mask h (by lia),Nat.mod_mod,Nat.add_zero]
   have ih:=zqk mask h n
   have e:gg (n+1) (lp mask h 12).1=gg n (lp mask h 12).1 * 5+1:=by
    rw [Nat.add_comm n 1,zrq]
    show 5 ^ 1 * _+(5 * 0+1)=_
    lia
   rw [e,Nat.add_mod,Nat.mul_mod,ih,<- Nat.mul_mod,<- Nat.add_mod]
theorem zrh (mask:Nat) (h:Int):∀ k,(lp mask h k).1<mask+1
 | 0=>Nat.mod_lt _ (Nat.succ_pos _)
 | k+1=>Nat.mod_lt _ (Nat.succ_pos _)
theorem z4k {mask m:Nat} (hm:mask+1=2 ^ m) (h:Int) {j:Nat} (hj:j<=mask):∃ n,n<10 * turns mask/\(sq mask h n).j=j:=by
 obtain ⟨n,hn,e⟩:=come m (lp mask h 12).1 j
 rw [<- hm] at e hn
 have e2:=zqk mask h n
 rw [e,Nat.mod_eq_of_lt (zrh ..),Nat.mod_eq_of_lt (Nat.lt_succ_of_le hj)] at e2
 obtain ⟨k,hk,ek⟩:=zs3 mask h (12+n)
 refine ⟨k,?_,?_⟩
 ·unfold turns;lia
 ·rw [ek];exact e2
theorem zqt (mask:Nat) (h:Int):∀ n,(sq mask h n).dummy=none
 | 0=>rfl
 | n+1=>by
   show ((T0 mask).advance (sq mask h n)).dummy=none
   unfold SetTable.advance
   split
   ·exact zqt mask h n
   ·exact zqt mask h n
theorem z1q {p:Nat->Prop} (n:Nat) (hp:p n):∃ m,m<=n/\p m/\∀ k,k<m->¬ p k:=by
 induction n using Nat.strongRecOn with
 | ind n ih =>
   by_cases h:∃ k,k<n/\p k
   ·obtain ⟨k,hk,pk⟩:=h
    obtain ⟨m,h1,h2,h3⟩:=ih k hk pk
    exact ⟨m,by lia,h2,h3⟩
   ·exact ⟨n,Nat.le_refl _,hp,fun k hk z=>h ⟨k,hk,z⟩⟩
noncomputable def Inc (xs:Array Nat):Prop:=∀ i k,i<k->k<xs.size->xs.getD i 0<xs.getD k 0
theorem zu0 {xs:Array Nat} {i:Nat} (h:i<xs.size) (a b:Nat):xs.getD i a=xs.getD i b:=by
 simp [Array.getD,h]
noncomputable def zju (xs:Array Nat) (j r:Nat):Prop:=r<=xs.size/\(∀ i,i<r->xs.getD i 0<j)/\∀ i,r<=i->i<xs.size->j<=xs.getD i 0
theorem zh3 {xs:Array Nat} (hI:Inc xs) (j:Nat):∀ fuel lo hi,hi - lo<=fuel->lo<=hi->hi<=xs.size->(∀ i,i<lo->xs.getD i 0<j)->(∀ i,hi<=i->i<xs.size->j<=xs.getD i 0)->zju xs j (below.go xs j fuel lo hi)
 | 0,lo,hi,h1,h2,h3,h4,h5=>by
   obtain rfl:lo=hi:=by lia
   exact ⟨h3,h4,h5⟩
 | fuel+1,lo,hi,h1,h2,h3,h4,h5=>by
   unfold below.go
   split
   ·rename_i hlt
    have hm:(lo+hi) / 2<xs.size:=by lia
    show zju xs j (if xs.getD ((lo+hi) / 2) j<j then below.go xs j fuel ((lo+hi) / 2+1) hi else below.go xs j fuel lo ((lo+hi) / 2))
    rw [zu0 hm j 0]
    by_cases hc:xs.getD ((lo+hi) / 2) 0<j
    ·rw [if_pos hc]
     refine zh3 hI j fuel ((lo+hi) / 2+1) hi (by lia) (by lia) h3 (fun i hi'=>?_) h5
     by_cases e:i=(lo+hi) / 2
     ·subst e;exact hc
     ·have:=hI i ((lo+hi) / 2) (by lia) hm
      lia
    ·rw [if_neg hc]
     refine zh3 hI j fuel lo ((lo+hi) / 2) (by lia) (by lia) (by lia) h4 (fun i hi' hs=>?_)
     by_cases e:i=(lo+hi) / 2
     ·subst e;lia
     ·have:=hI ((lo+hi) / 2) i (by lia) hs
      lia
   ·obtain rfl:lo=hi:=by lia
    exact ⟨h3,h4,h5⟩
theorem zhz {xs:Array Nat} (hI:Inc xs) (j:Nat):zju xs j (below xs j):=zh3 hI j _ _ _ (by lia) (Nat.zero_le _) (Nat.le_refl _) (fun i h=>absurd h (Nat.not_lt_zero _)) fun i h1 h2=>by lia
theorem zp6 {xs:Array Nat} (hI:Inc xs) {i:Nat} (hi:i<xs.size):below xs (xs.getD i 0)=i:=by
 obtain ⟨h1,h2,h3⟩:=zhz hI (xs.getD i 0)
 by_cases e:below xs (xs.getD i 0)<i
 ·have a:=h3 _ (Nat.le_refl _) (by lia)
  have b:=hI _ i e hi
  lia
 ·by_cases e2:i<below xs (xs.getD i 0)
  ·exact absurd (h2 i e2) (Nat.lt_irrefl _)
  ·lia
theorem zt4 {xs:Array Nat} {i:Nat} (hi:i<xs.size):xs[i]? = some (xs.getD i 0):=by
 simp [Array.getD,hi]
section
variable {t : SetTable} (hI : Inc t.place) (hd : t.dummies = #[])
include hI
theorem zkc {i:Nat} (hi:i<t.place.size):t.slot (t.place.getD i 0) = .live i:=by
 unfold SetTable.slot
 dsimp only
 rw [zp6 hI hi,zt4 hi]
 simp
omit hI in
theorem zj2 {i j:Nat} (h:t.slot j = .live i):i<t.place.size/\t.place.getD i 0=j:=by
 unfold SetTable.slot at h
 dsimp only at h
 split at h
 ·rename_i hc
  cases h
  have hc':=eq_of_beq hc
  obtain ⟨h1,h2⟩:=Array.getElem?_eq_some_iff.mp hc'
  exact ⟨h1,by simp [Array.getD,h1,h2]⟩
 ·split at h <;> cases h
omit hI in
include hd in
theorem zjm (j:Nat):t.slot j = .empty\/∃ i,t.slot j = .live i:=by
 unfold SetTable.slot
 dsimp only
 split
 ·exact .inr ⟨_,rfl⟩
 ·have:has t.dummies j=false:=by
   rw [hd]
   unfold has
   simp
  rw [this]
  exact .inl rfl
theorem zfg {j i:Nat} (h:t.slot j = .empty) (hi:i<t.place.size):t.place.getD i 0 ≠ j:=fun e=>by
 have:=zkc hI hi
 rw [e,h] at this
 cases this
omit hI in
include hd in
theorem zqj {j:Nat} (h:∀ i,i<t.place.size->t.place.getD i 0 ≠ j):t.slot j = .empty:=by
 rcases zjm hd j with e | ⟨i,e⟩
 ·exact e
 ·obtain ⟨h1,h2⟩:=zj2 e
  exact absurd h2 (h i h1)
omit hI in
include hd in
theorem zxa (hashAt:Nat->Int) (h:Int) (N:Nat) (h0:t.slot (sq t.mask h N).j = .empty) (hb:∀ k,k<N->t.slot (sq t.mask h k).j ≠ .empty):∀ fuel n,N<n+fuel->n<=N ->
 (∃ k i,n<=k/\k<N/\t.slot (sq t.mask h k).j = .live i/\hashAt i=h/\(∀ k',n<=k'->k'<k->∃ i',t.slot (sq t.mask h k').j = .live i'/\hashAt i' ≠ h)/\probe.go t hashAt h fuel (sq t.mask h n)=some (.candidate (sq t.mask h k).j i (sq t.mask h (k+1))))
 \/ ((∀ k,n<=k->k<N->∃ i,t.slot (sq t.mask h k).j = .live i/\hashAt i ≠ h)/\probe.go t hashAt h fuel (sq t.mask h n)=some (.empty (sq t.mask h N).j none))
 | 0,n,h1,h2=>absurd h1 (by lia)
 | fuel+1,n,h1,h2=>by
   by_cases e:n=N
   ·subst e
    refine .inr ⟨fun k a b=>by lia,?_⟩
    unfold probe.go
    rw [h0,zqt]
   ·obtain ⟨i,hi⟩:=(zjm hd (sq t.mask h n).j).resolve_left (hb n (by lia))
    by_cases eh:hashAt i=h
    ·refine .inl ⟨n,i,Nat.le_refl _,by lia,hi,eh,fun k' a b=>by lia,?_⟩
     unfold probe.go
     rw [hi]
     show (if hashAt i == h then _ else _)=_
     rw [if_pos (by simp [eh])]
     rfl
    ·have gs:probe.go t hashAt h (fuel+1) (sq t.mask h n)=probe.go t hashAt h fuel (sq t.mask h (n+1)):=by
      rw [probe.go,hi]
      show (if hashAt i == h then _ else _)=_
      rw [if_neg (by simp [eh])]
      rfl
     rw [gs]
     have add:∀ k',n<=k'->(n+1<=k'->∃ i',t.slot (sq t.mask h k').j = .live i'/\hashAt i' ≠ h)->∃ i',t.slot (sq t.mask h k').j = .live i'/\hashAt i' ≠ h:=fun k' a b=>by
      by_cases z:k'=n
      ·subst z;exact ⟨i,hi,eh⟩
      ·exact b (by lia)
     rcases zxa hashAt h N h0 hb fuel (n+1) (by lia) (by lia) with ⟨k,i',a1,a2,a3,a4,a5,a6⟩ | ⟨a1,a2⟩
     ·exact .inl ⟨k,i',by lia,a2,a3,a4,fun k' b1 b2=>add k' b1 fun z=>a5 k' z b2,a6⟩
     ·exact .inr ⟨fun k b1 b2=>add k b1 fun z=>a1 k z b2,a2⟩
end
end TB
namespace TB
open PySem PySem.SetTable
theorem len_nd {α:Type} [BEq α] [LawfulBEq α] {xs ys:List α} (h:xs.Nodup) (hs:∀ k ∈ xs,k ∈ ys):xs.length<=ys.length:=by
 induction xs generalizing ys with
 | nil=>exact Nat.zero_le _
 | cons x xs ih =>
   have hx:x ∈ ys:=hs x (by simp)
   have h':=List.nodup_cons.mp h
   have:=ih (ys:=ys.erase x) h'.2 fun k hk=>(List.mem_erase_of_ne (fun z:k=x=>h'.1 (z ▸ hk))).mpr (hs k (List.mem_cons_of_mem _ hk))
   rw [List.length_erase_of_mem hx] at this
   have:0<ys.length:=List.length_pos_of_mem hx
   simp only [List.length_cons]
   lia
theorem zoj {ps:List Nat} {M:Nat} (h:ps.length<M):∃ j,j<M/\j ∉ ps:=by
 refine Classical.byContradiction fun z=>?_
 have:=len_nd (xs:=List.range M) (ys:=ps) List.nodup_range fun k hk=>Classical.byContradiction fun q=>z ⟨k,List.mem_range.mp hk,q⟩
 rw [List.length_range] at this
 lia
structure TOk (t:SetTable) (hs:List Int) (m:Nat):Prop where
 mm:t.mask+1=2 ^ m
 m3:3<=m
 mb:m<=13
 dm:t.dummies = #[]
 sz:t.place.size=hs.length
 inc:Inc t.place
 le:∀ i,i<t.place.size->t.place.getD i 0<=t.mask
 rm:t.place.size<=t.mask
 rc:∀ i h,hs[i]? = some h->∃ n,(sq t.mask h n).j=t.place.getD i 0/\∀ k,k<n->t.slot (sq t.mask h k).j ≠ .empty
theorem zeq (xs:Array Nat) (i:Nat):xs.getD i 0=xs.toList[i]?.getD 0:=by
 rw [Array.getD_eq_getD_getElem?,Array.getElem?_toList]
theorem TOk.free {t:SetTable} {hs:List Int} {m:Nat} (O:TOk t hs m) (h:Int):∃ N,N<10 * turns t.mask/\t.slot (sq t.mask h N).j = .empty/\∀ k,k<N->t.slot (sq t.mask h k).j ≠ .empty:=by
 obtain ⟨j,hj,hn⟩:=zoj (ps:=t.place.toList) (M:=t.mask+1) (by have:=O.rm;simp;lia)
 obtain ⟨n,h1,h2⟩:=z4k O.mm h (j:=j) (by lia)
 have he:t.slot j = .empty:=zqj O.dm fun i hi e=>hn (by
  have:=zt4 hi
  rw [e] at this
  exact List.mem_of_getElem? (by rw [Array.getElem?_toList];exact this))
 obtain ⟨N,a1,a2,a3⟩:=z1q (p:=fun k=>t.slot (sq t.mask h k).j = .empty) n (by rw [h2];exact he)
 exact ⟨N,by lia,a2,a3⟩
noncomputable def ins {α:Type} (p:Nat) (x:α) (l:List α):List α:=l.take p++x::l.drop p
theorem zgr {α:Type} {p:Nat} {x:α} {l:List α} (hp:p<=l.length) (i:Nat):(ins p x l)[i]? = if i<p then l[i]? else if i=p then some x else l[i - 1]?:=by
 unfold ins
 rw [List.getElem?_append]
 have hl:(l.take p).length=p:=by rw [List.length_take];lia
 rw [hl]
 by_cases h1:i<p
 ·rw [if_pos h1,if_pos h1,List.getElem?_take,if_pos h1]
 ·rw [if_neg h1,if_neg h1]
  by_cases h2:i=p
  ·subst h2;simp
  ·rw [if_neg h2,show i - p=(i - p - 1)+1 by lia,List.getElem?_cons_succ,List.getElem?_drop]
   congr 1
   lia
theorem zez {α:Type} {p:Nat} {x:α} {l:List α}:(ins p x l).length=l.length+1:=by
 unfold ins
 rw [List.length_append,List.length_cons,List.length_take,List.length_drop]
 lia
theorem insA {α:Type} (xs:Array α) (p:Nat) (x:α):(insertAt xs p x).toList=ins p x xs.toList:=by
 rw [SetTable.toList_insertAt]
 rfl
theorem TOk.put {t:SetTable} {hs:List Int} {m:Nat} (O:TOk t hs m) {h:Int} {N:Nat} (hz:t.place.size+1<=t.mask) (h0:t.slot (sq t.mask h N).j = .empty) (hb:∀ k,k<N->t.slot (sq t.mask h k).j ≠ .empty) (hm:(sq t.mask h N).j<=t.mask) (b:Bool) :
 TOk { (t.put (sq t.mask h N).j).1 with plain:=b } (ins (below t.place (sq t.mask h N).j) h hs) m/\(t.put (sq t.mask h N).j).2=below t.place (sq t.mask h N).j:=by
 refine ⟨?_,rfl⟩
 generalize hj:(sq t.mask h N).j=j at *
 obtain ⟨b1,b2,b3⟩:=zhz O.inc j
 generalize hp:below t.place j=p at *
 have hd:has t.dummies j=false:=by
  rw [O.dm]
  unfold has
  simp
 generalize ht:({ (t.put j).1 with plain:=b }:SetTable)=t'
 have mk':t'.mask=t.mask:=by subst ht;rfl
 have dm':t'.dummies = #[]:=by
  subst ht
  show (if has t.dummies j=true then _ else t.dummies) = #[]
  rw [if_neg (by rw [hd];exact Bool.false_ne_true)]
  exact O.dm
 have pl:t'.place.toList=ins p j t.place.toList:=by
  subst ht
  show (insertAt t.place (below t.place j) j).toList=_
  rw [insA,hp]
 have psz:t'.place.size=t.place.size+1:=by
  rw [<- Array.length_toList,pl,zez,Array.length_toList]
 have hpl:p<=t.place.toList.length:=by simpa using b1
 have at':∀ i,t'.place.getD i 0=if i<p then t.place.getD i 0 else if i=p then j else t.place.getD (i - 1) 0:=fun i=>by
  rw [zeq,pl,zgr hpl]
  split
  ·rw [zeq]
  ·split
   ·rfl
   ·rw [zeq]
 have ne:∀ i,i<t.place.size->t.place.getD i 0 ≠ j:=fun i hi=>zfg O.inc h0 hi
 have inc':Inc t'.place:=fun i k hik hk=>by
  rw [at',at']
  rw [psz] at hk
  by_cases c1:k<p
  ·rw [if_pos c1,if_pos (by lia)]
   exact O.inc i k hik (by lia)
  ·rw [if_neg c1]
   by_cases c2:k=p
   ·rw [if_pos c2,if_pos (by lia)]
    exact b2 i (by lia)
   ·rw [if_neg c2]
    by_cases c3:i<p
    ·rw [if_pos c3]
     exact O.inc i (k - 1) (by lia) (by lia)
    ·rw [if_neg c3]
     by_cases c4:i=p
     ·rw [if_pos c4]
      have:=b3 (k - 1) (by lia) (by lia)
      have:=ne (k - 1) (by lia)
      lia
     ·rw [if_neg c4]
      exact O.inc (i - 1) (k - 1) (by lia) (by lia)
 have keep:∀ q,t.slot q ≠ .empty->t'.slot q ≠ .empty:=fun q hq z=>by
  obtain ⟨i,hi⟩:=(zjm O.dm q).resolve_left hq
  obtain ⟨h1,h2⟩:=zj2 hi
  by_cases c:i<p
  ·refine zfg inc' z (i:=i) (by lia) ?_
   rw [at',if_pos c,h2]
  ·refine zfg inc' z (i:=i+1) (by lia) ?_
   rw [at',if_neg (by lia),if_neg (by lia)]
   exact h2
 have hsl:p<=hs.length:=by rw [<- O.sz];exact b1
 refine ⟨by rw [mk'];exact O.mm,O.m3,O.mb,dm',by rw [psz,zez,O.sz],inc',fun i hi=>?_,by rw [psz,mk'];exact hz,fun i g hg=>?_⟩
 ·rw [at',mk']
  split
  ·exact O.le i (by lia)
  ·split
   ·exact hm
   ·exact O.le (i - 1) (by lia)
 ·rw [zgr hsl] at hg
  rw [at',mk']
  have lift:∀ i',hs[i']? = some g->∃ n,(sq t.mask g n).j=t.place.getD i' 0/\∀ k,k<n->t'.slot (sq t.mask g k).j ≠ .empty:=fun i' e=>by
   obtain ⟨n,a,c⟩:=O.rc i' g e
   exact ⟨n,a,fun k hk=>keep _ (c k hk)⟩
  by_cases c1:i<p
  ·rw [if_pos c1] at hg ⊢
   exact lift i hg
  ·rw [if_neg c1] at hg ⊢
   by_cases c2:i=p
   ·rw [if_pos c2] at hg ⊢
    cases hg
    exact ⟨N,hj,fun k hk=>keep _ (hb k hk)⟩
   ·rw [if_neg c2] at hg ⊢
    exact lift (i - 1) hg
theorem zwv {mask:Nat} (h:Int):∀ n,(sq mask h n).j<=mask/\(sq mask h n).more<=mask - (sq mask h n).j:=by
 have hr:∀ i,i<mask+1->runEnd mask i - i<=mask - i:=fun i hi=>by
  unfold runEnd
  split <;> lia
 intro n
 induction n with
 | zero =>
   have:=Nat.mod_lt (bits h) (show mask+1 > 0 by lia)
   exact ⟨by show bits h % (mask+1)<=mask;lia,hr _ this⟩
 | succ n ih =>
   show ((T0 mask).advance (sq mask h n)).j<=mask/\((T0 mask).advance (sq mask h n)).more<=mask - ((T0 mask).advance (sq mask h n)).j
   unfold SetTable.advance
   split
   ·dsimp only
    lia
   ·have:=Nat.mod_lt ((sq mask h n).i * 5+1+(sq mask h n).perturb / 32) (show mask+1 > 0 by lia)
    exact ⟨by show ((sq mask h n).i * 5+1+(sq mask h n).perturb / 32) % (mask+1)<=mask;lia,hr _ this⟩
end TB
namespace TB
open PySem PySem.SetTable
noncomputable def stn (mask:Nat) (h:Int):Nat->Nat
 | 0=>0
 | k+1=>stn mask h k+(runEnd mask (lp mask h k).1 - (lp mask h k).1)+1
theorem zxe (mask:Nat) (h:Int):∀ k,sq mask h (stn mask h k)=rs mask (lp mask h k)
 | 0=>rfl
 | k+1=>zpj (zxe mask h k)
theorem zv5 {mask m:Nat} (hm:mask+1=2 ^ m) (h:Int) {j:Nat} (hj:j<=mask):∃ K,K<=12+mask/\(lp mask h K).1=j:=by
 obtain ⟨n,hn,e⟩:=come m (lp mask h 12).1 j
 rw [<- hm] at e hn
 have e2:=zqk mask h n
 rw [e,Nat.mod_eq_of_lt (zrh ..),Nat.mod_eq_of_lt (Nat.lt_succ_of_le hj)] at e2
 exact ⟨12+n,by lia,e2⟩
structure Own (mask:Nat) (hs:List Int) (ps:List Nat) (owner:Array (Option Nat)):Prop where
 sz:owner.size=mask+1
 nd:ps.Nodup
 le:∀ p ∈ ps,p<=mask
 yes:∀ (i p:Nat),ps[i]? = some p->owner.getD p none=some i
 no:∀ j,j<=mask->j ∉ ps->owner.getD j none=none
 rc:∀ (i p:Nat) (h:Int),ps[i]? = some p->hs[i]? = some h->∃ n,(sq mask h n).j=p/\∀ k,k<n->(sq mask h k).j ∈ ps
section
variable {mask : Nat} {hs : List Int} {ps : List Nat} {owner : Array (Option Nat)}
theorem Own.look (O:Own mask hs ps owner) {j:Nat} (hj:j<=mask):(owner.getD j (some 0)).isNone=true↔j ∉ ps:=by
 have e:owner.getD j (some 0)=owner.getD j none:=by
  have:=O.sz
  simp [Array.getD,show j<owner.size by lia]
 rw [e]
 constructor
 ·intro h hp
  obtain ⟨i,hi⟩:=List.mem_iff_getElem?.mp hp
  rw [O.yes i j hi] at h
  cases h
 ·intro h
  rw [O.no j hj h]
  rfl
theorem zch {i d:Nat} (hi:i<mask+1) (hd:d<=runEnd mask i - i):i+d<=mask:=by
 unfold runEnd at hd
 split at hd <;> lia
theorem zoy (O:Own mask hs ps owner) (h:Int) (K:Nat) (hK:(lp mask h K).1 ∉ ps):∀ fuel k,K<k+fuel->k<=K ->
 ∃ N,layClean.free mask owner fuel (lp mask h k).1 (lp mask h k).2=some (sq mask h N).j/\(sq mask h N).j ∉ ps/\∀ k',stn mask h k<=k'->k'<N->(sq mask h k').j ∈ ps
 | 0,k,h1,h2=>absurd h1 (by lia)
 | fuel+1,k,h1,h2=>by
   have hl:=zrh mask h k
   have pos:∀ d,d<=runEnd mask (lp mask h k).1 - (lp mask h k).1->(sq mask h (stn mask h k+d)).j=(lp mask h k).1+d:=fun d hd=>by rw [zp4 (zxe mask h k) d hd]
   have rge:(lp mask h k).1<=runEnd mask (lp mask h k).1:=by unfold runEnd;split <;> lia
   unfold layClean.free
   cases e:(List.range (runEnd mask (lp mask h k).1+1 - (lp mask h k).1)).find? fun d=>(owner.getD ((lp mask h k).1+d) (some 0)).isNone with
   | some d =>
     dsimp only
     obtain ⟨e1,as,bs,e2,e3⟩:=List.find?_eq_some_iff_append.mp e
     have hd:d<runEnd mask (lp mask h k).1+1 - (lp mask h k).1:=by
      have:d ∈ List.range (runEnd mask (lp mask h k).1+1 - (lp mask h k).1):=by rw [e2];simp
      exact List.mem_range.mp this
     have hd':d<=runEnd mask (lp mask h k).1 - (lp mask h k).1:=by lia
     refine ⟨stn mask h k+d,by rw [pos d hd'],?_,fun k' a1 a2=>?_⟩
     ·rw [pos d hd']
      exact (O.look (zch hl hd')).mp e1
     ·obtain ⟨c,rfl⟩:∃ c,k'=stn mask h k+c:=⟨k' - stn mask h k,by lia⟩
      have hc:c<=runEnd mask (lp mask h k).1 - (lp mask h k).1:=by lia
      rw [pos c hc]
      have hmem:c ∈ as:=by
       have al:as=List.range as.length:=by
        have:=congrArg (List.take as.length) e2
        rw [List.take_left,List.take_range] at this
        have hle:as.length<=runEnd mask (lp mask h k).1+1 - (lp mask h k).1:=by
         have:=congrArg List.length e2
         simp at this
         lia
        rw [Nat.min_eq_left hle] at this
        exact this.symm
       have ad:as.length=d:=by
        have:=congrArg (fun l=>l[as.length]?) e2
        simp only [List.getElem?_append_right (Nat.le_refl _),Nat.sub_self,List.getElem?_cons_zero] at this
        rw [List.getElem?_eq_some_iff] at this
        obtain ⟨_,q⟩:=this
        rw [List.getElem_range] at q
        exact q
       rw [al,List.mem_range]
       lia
      have:=e3 c hmem
      refine Classical.byContradiction fun z=>?_
      rw [(O.look (zch hl hc)).mpr z] at this
      cases this
   | none =>
     have all:∀ d,d<=runEnd mask (lp mask h k).1 - (lp mask h k).1->(lp mask h k).1+d ∈ ps:=fun d hd=>by
      have:=List.find?_eq_none.mp e d (List.mem_range.mpr (by lia))
      refine Classical.byContradiction fun z=>this ((O.look (zch hl hd)).mpr z)
     have ne:k ≠ K:=fun z=>by
      subst z
      exact hK (by simpa using all 0 (Nat.zero_le _))
     obtain ⟨N,a1,a2,a3⟩:=zoy O h K hK fuel (k+1) (by lia) (by lia)
     refine ⟨N,a1,a2,fun k' b1 b2=>?_⟩
     by_cases c:stn mask h (k+1)<=k'
     ·exact a3 k' c b2
     ·obtain ⟨c',rfl⟩:∃ c,k'=stn mask h k+c:=⟨k' - stn mask h k,by lia⟩
      have hc:c'<=runEnd mask (lp mask h k).1 - (lp mask h k).1:=by
       have:stn mask h (k+1)=stn mask h k+(runEnd mask (lp mask h k).1 - (lp mask h k).1)+1:=rfl
       lia
      rw [pos c' hc]
      exact all c' hc
theorem Own.nil (mask:Nat) (hs:List Int):Own mask hs [] (Array.replicate (mask+1) none) :=
 { sz:=by simp,nd := .nil,le:=(fun p h=>(List.not_mem_nil h).elim),yes:=(fun i p h=>by simp at h),no:=(fun j hj _=>by simp [Array.getD]),rc:=(fun i p h e=>by simp at e) }
theorem Own.more (O:Own mask hs ps owner) {j:Nat} {h:Int} (hj:j<=mask) (hn:j ∉ ps) (hh:hs[ps.length]? = some h) {N:Nat} (e:(sq mask h N).j=j) (hb:∀ k,k<N->(sq mask h k).j ∈ ps):Own mask hs (ps ++ [j]) (owner.setIfInBounds j (some ps.length)):=by
 have hsz:=O.sz
 have gd:∀ q,q<=mask->(owner.setIfInBounds j (some ps.length)).getD q none=if q=j then some ps.length else owner.getD q none:=fun q hq=>by
  rw [Array.getD_eq_getD_getElem?,Array.getElem?_setIfInBounds,Array.getD_eq_getD_getElem?]
  by_cases c:q=j
  ·subst c
   rw [if_pos rfl,if_pos rfl,if_pos (by lia)]
   rfl
  ·rw [if_neg (Ne.symm c),if_neg c]
 have up:∀ (i p:Nat),(ps ++ [j])[i]? = some p->(i<ps.length/\ps[i]? = some p)\/(i=ps.length/\p=j):=fun i p hi=>by
  rw [List.getElem?_append] at hi
  split at hi
  ·rename_i c;exact .inl ⟨c,hi⟩
  ·rename_i c
   by_cases c2:i=ps.length
   ·subst c2;simp at hi;exact .inr ⟨rfl,hi.symm⟩
   ·rw [List.getElem?_eq_none (by simp;lia)] at hi;cases hi
 refine ⟨by simpa using hsz,?_,fun p hp=>?_,fun i p hi=>?_,fun q hq hqn=>?_,fun i p g hi hg=>?_⟩
 ·exact List.nodup_append.mpr ⟨O.nd,by simp,fun a ha b hb=>by rw [List.mem_singleton] at hb;subst hb;exact fun z=>hn (z ▸ ha)⟩
 ·rcases List.mem_append.mp hp with hp | hp
  ·exact O.le p hp
  ·rw [List.mem_singleton.mp hp];exact hj
 ·rcases up i p hi with ⟨h1,h2⟩ | ⟨h1,h2⟩
  ·have pm:=List.mem_of_getElem? h2
   rw [gd p (O.le p pm),if_neg (fun z:p=j=>hn (z ▸ pm))]
   exact O.yes i p h2
  ·subst h1 h2
   rw [gd p hj,if_pos rfl]
 ·rw [gd q hq,if_neg (fun z=>hqn (by simp [z]))]
  exact O.no q hq fun z=>hqn (by simp [z])
 ·rcases up i p hi with ⟨h1,h2⟩ | ⟨h1,h2⟩
  ·obtain ⟨n,a,b⟩:=O.rc i p g h2 hg
   exact ⟨n,a,fun k hk=>List.mem_append_left _ (b k hk)⟩
  ·subst h1 h2
   rw [hh] at hg
   cases hg
   exact ⟨N,e,fun k hk=>List.mem_append_left _ (hb k hk)⟩
noncomputable abbrev zll (mask:Nat) (acc:Option (Array (Option Nat) × Nat)) (h:Int):Option (Array (Option Nat) × Nat):=do
 let (owner,k) <- acc
 let j <- layClean.free mask owner (turns mask) (bits h % (mask+1)) (bits h)
 pure (owner.setIfInBounds j (some k),k+1)
theorem zny {m:Nat} (hm:mask+1=2 ^ m) (hz:hs.length<=mask):∀ (rest:List Int) (ps:List Nat) (owner:Array (Option Nat)),hs.drop ps.length=rest->ps.length<=hs.length->Own mask hs ps owner ->
 ∃ ps' owner',rest.foldl (zll mask) (some (owner,ps.length))=some (owner',hs.length)/\Own mask hs ps' owner'/\ps'.length=hs.length
 | [],ps,owner,hd,hl,O=>by
   have:ps.length=hs.length:=by
    have:=congrArg List.length hd
    simp at this
    lia
   exact ⟨ps,owner,by rw [this];rfl,O,this⟩
 | h::rest,ps,owner,hd,hl,O=>by
   have hh:hs[ps.length]? = some h:=by
    have:=congrArg (fun l=>l[0]?) hd
    simpa using this
   have hlt:ps.length<hs.length:=(List.getElem?_eq_some_iff.mp hh).1
   obtain ⟨j,hj,hn⟩:=zoj (ps:=ps) (M:=mask+1) (by lia)
   obtain ⟨K,k1,k2⟩:=zv5 hm h (j:=j) (by lia)
   obtain ⟨N,a1,a2,a3⟩:=zoy O h K (by rw [k2];exact hn) (turns mask) 0 (by unfold turns;lia) (Nat.zero_le _)
   have st:zll mask (some (owner,ps.length)) h=some (owner.setIfInBounds (sq mask h N).j (some ps.length),ps.length+1):=by
    show ((layClean.free mask owner (turns mask) (lp mask h 0).1 (lp mask h 0).2).bind fun j=>some (owner.setIfInBounds j (some ps.length),ps.length+1))=_
    rw [a1]
    rfl
   rw [List.foldl_cons,st]
   have O':=O.more (zwv h N).1 a2 hh rfl fun k hk=>a3 k (Nat.zero_le _) hk
   have:=zny hm hz rest (ps ++ [(sq mask h N).j]) _ (by
    rw [List.length_append,List.length_singleton,<- List.drop_drop,hd];rfl) (by simp;lia) O'
   rw [List.length_append,List.length_singleton] at this
   exact this
theorem zri {m:Nat} (hm:mask+1=2 ^ m) (hz:hs.length<=mask):∃ ps owner,layClean mask hs.toArray=some owner/\Own mask hs ps owner/\ps.length=hs.length:=by
 obtain ⟨ps,owner,a,b,c⟩:=zny hm hz hs [] _ rfl (Nat.zero_le _) (Own.nil mask hs)
 refine ⟨ps,owner,?_,b,c⟩
 unfold layClean
 have e:(hs.toArray.foldl (zll mask) (some (Array.replicate (mask+1) none,0)))=some (owner,hs.length):=by
  rw [<- Array.foldl_toList]
  exact a
 show Option.map (·.1) (hs.toArray.foldl (zll mask) (some (Array.replicate (mask+1) none,0)))=_
 rw [e]
 rfl
end
end TB
namespace TB
open PySem PySem.SetTable
theorem znh (n:Nat):∀ fuel m,n<2 ^ (m+fuel)->∃ m',m<=m'/\sizeAbove.go n fuel (2 ^ m)=2 ^ m'/\n<2 ^ m'/\(m'=m\/2 ^ m'<=2 * n)
 | 0,m,h=>⟨m,Nat.le_refl _,rfl,h,.inl rfl⟩
 | fuel+1,m,h=>by
   unfold sizeAbove.go
   by_cases c:2 ^ m<=n
   ·rw [if_pos c,show 2 ^ m * 2=2 ^ (m+1) from (Nat.pow_succ ..).symm]
    obtain ⟨m',a,b,d,e⟩:=znh n fuel (m+1) (by rw [show m+1+fuel=m+(fuel+1) by lia];exact h)
    refine ⟨m',by lia,b,d,.inr ?_⟩
    rcases e with e | e
    ·rw [e,Nat.pow_succ];lia
    ·exact e
   ·rw [if_neg c]
    exact ⟨m,Nat.le_refl _,rfl,by lia,.inl rfl⟩
theorem above {n:Nat} (hn:n<2 ^ 60):∃ m,3<=m/\sizeAbove n=2 ^ m/\n<2 ^ m/\(m=3\/2 ^ m<=2 * n) :=
 znh n 64 3 (Nat.lt_of_lt_of_le hn (Nat.pow_le_pow_right (by decide) (by decide)))
theorem ze3 {β γ:Type} {f:β->Option γ}:∀ {l:List β},(∀ b ∈ l,(f b).isSome=true)->∀ a:Nat,(l.filterMap f)[a]? = l[a]?.bind f
 | [],_,a=>by simp
 | b::l,h,a=>by
   obtain ⟨c,hc⟩:=Option.isSome_iff_exists.mp (h b (by simp))
   rw [List.filterMap_cons_some hc]
   cases a with
   | zero=>simp [hc]
   | succ a =>
     rw [List.getElem?_cons_succ,List.getElem?_cons_succ]
     exact ze3 (fun b' hb=>h b' (List.mem_cons_of_mem _ hb)) a
theorem zt5 {α:Type} (t:SetTable) (es:Array (Int × α)) (hz:es.size<=1000):∃ t' order m,t.relaid (es.map (·.1)) (es.size * 4)=some (t',order)/\TOk t' ((order.filterMap (es[·]?)).toList.map (·.1)) m/\(order.filterMap (es[·]?)).toList.Perm es.toList/\t'.led=t.led/\t'.plain=t.plain/\t'.tooFull=false/\order.toList.Perm (List.range es.size):=by
 obtain ⟨m,m3,em,lm,um⟩:=above (n:=es.size * 4) (by lia)
 have m13:m<=12:=by
  rcases um with rfl | um
  ·decide
  ·refine Nat.le_of_not_lt fun c=>?_
   have:2 ^ 13<=2 ^ m:=Nat.pow_le_pow_right (by decide) c
   lia
 unfold SetTable.relaid SetTable.laid
 rw [em]
 have hm:2 ^ m - 1+1=2 ^ m:=by lia
 generalize 2 ^ m - 1=mask at hm ⊢
 have he:(es.map (·.1))=(es.toList.map (·.1)).toArray:=by
  apply Array.toList_inj.mp
  simp
 rw [he]
 generalize hhs:es.toList.map (·.1)=hs
 have hl:hs.length=es.size:=by rw [<- hhs];simp
 obtain ⟨ps,owner,a,O,c⟩:=zri (mask:=mask) (hs:=hs) hm (by lia)
 rw [a]
 generalize hlv:((List.range (mask+1)).filterMap fun j=>(owner.getD j none).map (j,·))=lv
 have mem1:∀ q ∈ lv,q.1<=mask/\ps[q.2]? = some q.1:=fun q hq=>by
  rw [<- hlv] at hq
  obtain ⟨j,hj,e⟩:=List.mem_filterMap.mp hq
  have hj':=List.mem_range.mp hj
  cases eo:owner.getD j none with
  | none=>rw [eo] at e;cases e
  | some i =>
    rw [eo] at e
    cases e
    refine ⟨Nat.le_of_lt_succ hj',?_⟩
    refine Classical.byContradiction fun z=>?_
    by_cases hp:j ∈ ps
    ·obtain ⟨i',hi'⟩:=List.mem_iff_getElem?.mp hp
     have:=O.yes i' j hi'
     rw [eo] at this
     cases this
     exact z hi'
    ·have:=O.no j (by lia) hp
     rw [eo] at this
     cases this
 have mem2:∀ i j,ps[i]? = some j->(j,i) ∈ lv:=fun i j h=>by
  rw [<- hlv]
  refine List.mem_filterMap.mpr ⟨j,List.mem_range.mpr (by have:=O.le j (List.mem_of_getElem? h);lia),?_⟩
  rw [O.yes i j h]
  rfl
 have rise:lv.Pairwise fun a b=>a.1<b.1:=by
  rw [<- hlv,List.pairwise_filterMap]
  refine List.Pairwise.imp ?_ List.pairwise_lt_range
  intro x y hxy b hb b' hb'
  cases e1:owner.getD x none with
  | none=>rw [e1] at hb;cases hb
  | some i =>
    cases e2:owner.getD y none with
    | none=>rw [e2] at hb';cases hb'
    | some i' =>
      rw [e1] at hb;rw [e2] at hb'
      cases hb;cases hb'
      exact hxy
 have nd2:(lv.map (·.2)).Nodup:=by
  unfold List.Nodup
  rw [List.pairwise_map]
  refine List.Pairwise.imp_of_mem ?_ rise
  intro x y hx hy hxy z
  have h1:=(mem1 x hx).2
  have h2:=(mem1 y hy).2
  rw [z,h2] at h1
  have:=Option.some.inj h1
  lia
 have perm:(lv.map (·.2)).Perm (List.range es.size):=by
  refine (List.perm_ext_iff_of_nodup nd2 List.nodup_range).mpr fun i=>?_
  rw [List.mem_range,List.mem_map]
  constructor
  ·rintro ⟨q,hq,rfl⟩
   have:=(List.getElem?_eq_some_iff.mp (mem1 q hq).2).1
   lia
  ·intro hi
   exact ⟨(ps[i]'(by lia),i),mem2 i _ (List.getElem?_eq_getElem (by lia)),rfl⟩
 have lvlen:lv.length=es.size:=by simpa using perm.length_eq
 have fm:((lv.map (·.2)).toArray.filterMap (es[·]?)).toList=(lv.map (·.2)).filterMap (es[·]?):=by simp
 have isS:∀ i ∈ lv.map (·.2),(es[i]?).isSome=true:=fun i hi=>by
  have:=List.mem_range.mp (perm.mem_iff.mp hi)
  simp [this]
 have p2:((lv.map (·.2)).toArray.filterMap (es[·]?)).toList.Perm es.toList:=by
  rw [fm,<- filterMap_getElem?_range es]
  exact perm.filterMap _
 refine ⟨{ mask,place:=((lv.map (·.1)).toArray:Array Nat),dummies:=#[],finger:=t.finger,led:=t.led,moves:=t.movedTo mask,plain:=t.plain },(lv.map (·.2)).toArray,m,by rw [<- hlv];rfl,?_,p2,rfl,rfl,?_,by simpa using perm⟩
 ·have pe:((lv.map (·.1)).toArray:Array Nat).size=es.size:=by simp [lvlen]
  have gd:∀ i q,lv[i]? = some q->((lv.map (·.1)).toArray:Array Nat).getD i 0=q.1:=fun i q h=>by
   rw [zeq]
   simp [h]
  have inc:Inc ((lv.map (·.1)).toArray:Array Nat):=fun i k hik hk=>by
   have hk':k<lv.length:=by simpa using hk
   rw [gd i lv[i] (List.getElem?_eq_getElem (by lia)),gd k lv[k] (List.getElem?_eq_getElem hk')]
   exact List.pairwise_iff_getElem.mp rise i k (by lia) hk' hik
  refine ⟨hm,m3,by lia,rfl,?_,inc,fun i hi=>?_,?_,fun i h hg=>?_⟩
  ·show ((lv.map (·.1)).toArray:Array Nat).size=_
   rw [pe,List.length_map,p2.length_eq,Array.length_toList]
  ·have hi':i<lv.length:=by simpa using hi
   show ((lv.map (·.1)).toArray:Array Nat).getD i 0<=mask
   rw [gd i lv[i] (List.getElem?_eq_getElem hi')]
   exact (mem1 _ (List.getElem_mem hi')).1
  ·show ((lv.map (·.1)).toArray:Array Nat).size<=mask
   rw [pe];lia
  ·rw [List.getElem?_map,fm,ze3 isS,List.getElem?_map] at hg
   cases eq:lv[i]? with
   | none=>rw [eq] at hg;cases hg
   | some q =>
     rw [eq] at hg
     have hq:=mem1 q (List.mem_of_getElem? eq)
     have hes:hs[q.2]? = some h:=by
      rw [<- hhs,List.getElem?_map,Array.getElem?_toList]
      exact hg
     obtain ⟨n,n1,n2⟩:=O.rc q.2 q.1 h hq.2 hes
     refine ⟨n,?_,fun k hk z=>?_⟩
     ·show _=((lv.map (·.1)).toArray:Array Nat).getD i 0
      rw [gd i q eq]
      exact n1
     ·obtain ⟨i',hi'⟩:=List.mem_iff_getElem?.mp (n2 k hk)
      obtain ⟨a',ha'⟩:=List.mem_iff_getElem?.mp (mem2 i' _ hi')
      refine zfg (t:={ mask,place:=((lv.map (·.1)).toArray:Array Nat),dummies:=#[],finger:=t.finger,led:=t.led,moves:=t.movedTo mask,plain:=t.plain }) inc z (i:=a') ?_ ?_
      ·show a'<((lv.map (·.1)).toArray:Array Nat).size
       rw [pe,<- lvlen]
       exact (List.getElem?_eq_some_iff.mp ha').1
      ·exact gd a' _ ha'
 ·show decide (((lv.map (·.1)).toArray.size+(#[]:Array Nat).size) * 5 ≥ mask * 3)=false
  rw [show ((lv.map (·.1)).toArray:Array Nat).size=es.size by simp [lvlen]]
  have:(#[]:Array Nat).size=0:=rfl
  have h8:2 ^ 3<=2 ^ m:=Nat.pow_le_pow_right (by decide) m3
  refine decide_eq_false ?_
  lia
end TB
namespace HK
open PySem PySem.Spec PyProof.Rows
mutual
noncomputable def hk:PyData->Bool
 | .int _=>true
 | .str _=>true
 | .tuple ds=>hks ds
 | _=>false
noncomputable def hks:List PyData->Bool
 | []=>true
 | d::ds=>hk d && hks ds
end
mutual
noncomputable def hD (w:World):PyData->Int
 | .int i=>hashInt i
 | .str x=>hashStr w x
 | .tuple ds=>reduceHash (Builtin.Tuple.tupleHashOf (hDs w ds))
 | _=>0
noncomputable def hDs (w:World):List PyData->List Int
 | [] => []
 | d::ds=>hD w d::hDs w ds
end
mutual
noncomputable def bv:PyData->Bool
 | .int _=>true
 | .tuple ds=>bvs ds
 | _=>false
noncomputable def bvs:List PyData->Bool
 | []=>true
 | d::ds=>bv d && bvs ds
end
mutual
noncomputable def dr:PyData->Nat
 | .tuple ds=>drs ds+1
 | _=>1
noncomputable def drs:List PyData->Nat
 | []=>0
 | d::ds=>dr d+drs ds
end
theorem zd2:∀ {ds:List PyData},hks ds=true->∀ d ∈ ds,hk d=true
 | d::ds,h,e,he=>by
   simp only [hks,Bool.and_eq_true] at h
   rcases List.mem_cons.mp he with rfl | he
   ·exact h.1
   ·exact zd2 h.2 e he
theorem zdd:∀ {ds:List PyData} {d:PyData},d ∈ ds->d.depth<=PyData.depthAll ds
 | e::ds,d,h=>by
   rw [PyData.depthAll]
   rcases List.mem_cons.mp h with rfl | h
   ·exact Nat.le_max_left _ _
   ·exact Nat.le_trans (zdd h) (Nat.le_max_right _ _)
mutual
theorem zcl:∀ d:PyData,hk d=true->L3.solid d=true
 | .int _,_=>rfl
 | .str _,_=>rfl
 | .tuple ds,h=>zh8 ds (by simpa [hk] using h)
 | .none,h=>rfl
 | .bool _,h=>by simp [hk] at h
 | .list _,h=>by simp [hk] at h
 | .dict _,h=>by simp [hk] at h
theorem zh8:∀ ds:List PyData,hks ds=true->L3.solids ds=true
 | [],_=>rfl
 | d::ds,h=>by
   simp only [hks,Bool.and_eq_true] at h
   rw [L3.solids,zcl d h.1,zh8 ds h.2]
   rfl
end
section
variable {P : Program} {w : World}
theorem zbr {h:Heap} {v:Value} {vs:List Value} {ds:List PyData} {as:List Addr} (r:ReadsAll h (v::vs) ds as):∃ d ds' a b,ds=d::ds'/\Reads h v d a/\ReadsAll h vs ds' b:=by
 cases r with
 | cons r1 r2=>exact ⟨_,_,_,_,rfl,r1,r2⟩
theorem ziz:∀ (n:Nat) (d:PyData),d.depth<=n->hk d=true->∀ (A:Around) (E:Value->Shared->Prop) (s:Shared) (v:Value) (as:List Addr) (Q:Int->Shared->Prop),A.units+d.depth<cLine->Reads s.heap v d as ->
 Q (hD w d) { s with toks:=s.toks+dr d }->wpAny (model P w) A (pyHash v) Q E s:=by
 intro n
 induction n with
 | zero =>
   intro d hd hk' A E s v as Q hu r h
   cases r with
   | int i t=>exact wpAny_pyHash_int h
   | str x t=>exact wpAny_pyHash_str h
   | tuple _ _ _ _=>simp [PyData.depth] at hd
   | _=>simp [hk] at hk'
 | succ n ih =>
   intro d hd hk' A E s v as Q hu r h
   cases r with
   | int i t=>exact wpAny_pyHash_int h
   | str x t=>exact wpAny_pyHash_str h
   | @tuple a o vs c ds as ho hc hdt hr =>
     have hds:hks ds=true:=by simpa [hk] using hk'
     rw [PyData.depth] at hd hu
     have hT:s.TypeIs (.ref a) "tuple" := ⟨o,ho,hc⟩
     unfold pyHash pyHashByItsType
     refine wpAny_bind (wpAny_cRoomFor_or (.inr (by lia)) ?_)
     refine wpAny_bind (wpAny_specialOf hT F.slot_tuple_hash.lookup ?_)
     show wpAny _ _ (if (some (Value.builtin "tuple.__hash__") == some Value.none)=true then _ else _) Q E s
     rw [if_neg (by rw [beq_builtin_none];exact Bool.false_ne_true)]
     refine wpAny_bind (wpAny_specialOf hT F.slot_tuple_hash.lookup ?_)
     show wpAny _ _ (callSpecialIfBoundUnlessNone? (.ref a) "__hash__" _ >>= _) Q E s
     refine wpAny_bind (wpAny_callSpecialIfBoundUnlessNone?_slot hT F.slot_tuple_hash (wpAny_call_entry F.slot_tuple_hash hT F.entry_tuple_hash ?_ (F.args_tuple_hash_1 _)))
     show wpAny _ _ (Builtin.Tuple.tupleItemsOf (.ref a) >>= _) _ _ s
     refine wpAny_bind (wpAny_tupleItemsOf ho hdt ?_)
     refine wpAny_bind ?_
     rw [<- Array.forIn_toList]
     refine wpAny_forIn_list _
      (fun rest (b:Array Int) s'=>∃ left as',ReadsAll s.heap rest left as'/\(∀ d ∈ left,d ∈ ds)/\b.toList++hDs w left=hDs w ds/\∃ k,s' = { s with toks:=s.toks+k }/\k+drs left=drs ds)
      _ ?_ ?_ _ _ ⟨ds,_,hr,fun _ z=>z,rfl,0,rfl,Nat.zero_add _⟩
     ·rintro x rest b s' ⟨left,as',hl,hm,hb,k,rfl,hk2⟩
      obtain ⟨d,ds',a1,b1,rfl,r1,r2⟩:=zbr hl
      have hd':=hm d (by simp)
      have hdep:=zdd hd'
      refine wpAny_bind (ih d (by lia) (zd2 hds d hd') A.in1 _ { s with toks:=s.toks+k } x a1 _ (by show A.units+1+d.depth<cLine;lia) r1 ?_)
      rw [hDs] at hb
      rw [drs] at hk2
      first
       | exact wpAny_pure ⟨ds',b1,r2,fun e z=>hm e (List.mem_cons_of_mem _ z),by simpa using hb,k+dr d,by simp [Nat.add_assoc],by lia⟩
       | exact wpAny_bind (wpAny_pure (wpAny_pure ⟨ds',b1,r2,fun e z=>hm e (List.mem_cons_of_mem _ z),by simpa using hb,k+dr d,by simp [Nat.add_assoc],by lia⟩))
     ·rintro b s' ⟨left,as',hl,hm,hb,k,rfl,hk2⟩
      cases hl
      simp only [hDs,List.append_nil] at hb
      simp only [drs,Nat.add_zero] at hk2
      show wpAny _ _ (retInt (Builtin.Tuple.tupleHashOf b.toList)) _ _ _
      rw [hb]
      refine wpAny_ret_mkInt ?_
      rw [dr,hD] at h
      show wpAny _ _ (if (decide (-(2:Int) ^ 63<=Builtin.Tuple.tupleHashOf (hDs w ds)) && decide (Builtin.Tuple.tupleHashOf (hDs w ds)<2 ^ 63))=true then _ else _) Q E _
      unfold reduceHash at h
      subst hk2
      by_cases hr':(decide (-(2:Int) ^ 63<=Builtin.Tuple.tupleHashOf (hDs w ds)) && decide (Builtin.Tuple.tupleHashOf (hDs w ds)<2 ^ 63))=true
      ·rw [if_pos hr']
       rw [if_pos hr'] at h
       exact wpAny_pure (by simpa [Nat.add_assoc] using h)
      ·rw [if_neg hr']
       rw [if_neg hr'] at h
       exact wpAny_bind (wpAny_rule (wpAny_pure (by simpa [Nat.add_assoc] using h)))
   | _=>simp [hk] at hk'
theorem zeu:∀ (n:Nat) (d:PyData),d.depth<=n->hk d=true->∀ (A:Around) (E:Value->Shared->Prop) (s:Shared) (v:Value) (as:List Addr) (Q:Bool->Shared->Prop),Reads s.heap v d as->Q true s->wpAny (model P w) A (eqIsQuiet n v) Q E s:=by
 intro n
 induction n with
 | zero =>
   intro d hd hk' A E s v as Q r h
   cases r with
   | int i t=>exact wpAny_of_eq (eqIsQuiet_byValue _ rfl) h
   | str x t=>exact wpAny_of_eq (eqIsQuiet_byValue _ rfl) h
   | tuple _ _ _ _=>simp [PyData.depth] at hd
   | _=>simp [hk] at hk'
 | succ n ih =>
   intro d hd hk' A E s v as Q r h
   cases r with
   | int i t=>exact wpAny_of_eq (eqIsQuiet_byValue _ rfl) h
   | str x t=>exact wpAny_of_eq (eqIsQuiet_byValue _ rfl) h
   | @tuple a o vs c ds as ho hc hdt hr =>
     have hds:hks ds=true:=by simpa [hk] using hk'
     rw [PyData.depth] at hd
     have hT:s.TypeIs (.ref a) "tuple" := ⟨o,ho,hc⟩
     unfold eqIsQuiet
     refine wpAny_bind (wpAny_specialOf hT F.slot_tuple_eq.lookup ?_)
     show wpAny _ _ (isInstance (.ref a) (.type "tuple") >>= _) _ _ s
     refine wpAny_bind (wpAny_isInstance hT isSubtype_tuple_tuple ?_)
     simp only [Bool.not_true,Bool.false_eq_true,if_false]
     refine wpAny_bind (wpAny_seqItems ho hdt ?_)
     refine wpAny_bind ?_
     show wpAny _ _ (forIn vs _ _) _ _ s
     rw [<- Array.forIn_toList]
     refine wpAny_forIn_list _ (fun rest r s'=>r.1=none/\s'=s/\∃ left as',ReadsAll s.heap rest left as'/\∀ d ∈ left,d ∈ ds) _ ?_ ?_ _ _ ⟨rfl,rfl,ds,_,hr,fun _ z=>z⟩
     ·rintro v rest r s' ⟨hr',rfl,left,as',hl,hm⟩
      obtain ⟨d,ds',a1,b1,rfl,r1,r2⟩:=zbr hl
      have hd':=hm d (by simp)
      have hdep:=zdd hd'
      refine wpAny_bind (ih d (by lia) (zd2 hds d hd') _ _ _ v a1 _ r1 ?_)
      simp only [Bool.not_true,Bool.false_eq_true,if_false]
      exact wpAny_pure ⟨rfl,rfl,ds',b1,r2,fun e z=>hm e (List.mem_cons_of_mem _ z)⟩
     ·rintro ⟨r1,r2⟩ s' ⟨hr',rfl,_⟩
      simp only at hr'
      subst hr'
      exact wpAny_pure h
   | _=>simp [hk] at hk'
theorem zhj:∀ (n:Nat) (d:PyData),d.depth<=n->hk d=true->∀ (A:Around) (E:Value->Shared->Prop) (s:Shared) (v:Value) (as:List Addr) (Q:Bool->Shared->Prop),Reads s.heap v d as->Q false s->wpAny (model P w) A (ofAClassStatement n v) Q E s:=by
 intro n
 induction n with
 | zero =>
   intro d hd hk' A E s v as Q r h
   cases r with
   | int i t=>exact wpAny_pure h
   | str x t=>exact wpAny_pure h
   | tuple _ _ _ _=>simp [PyData.depth] at hd
   | _=>simp [hk] at hk'
 | succ n ih =>
   intro d hd hk' A E s v as Q r h
   cases r with
   | int i t=>exact wpAny_pure h
   | str x t=>exact wpAny_pure h
   | @tuple a o vs c ds as ho hc hdt hr =>
     have hds:hks ds=true:=by simpa [hk] using hk'
     rw [PyData.depth] at hd
     have hT:s.TypeIs (.ref a) "tuple" := ⟨o,ho,hc⟩
     unfold ofAClassStatement
     refine wpAny_bind (wpAny_typeOf hT ?_)
     refine wpAny_bind (wpAny_pure ?_)
     refine SX.wp_f (by decide) ?_
     refine wpAny_bind (wpAny_seqItems ho hdt ?_)
     refine wpAny_bind ?_
     show wpAny _ _ (forIn vs _ _) _ _ s
     rw [<- Array.forIn_toList]
     refine wpAny_forIn_list _ (fun rest r s'=>r.1=none/\s'=s/\∃ left as',ReadsAll s.heap rest left as'/\∀ d ∈ left,d ∈ ds) _ ?_ ?_ _ _ ⟨rfl,rfl,ds,_,hr,fun _ z=>z⟩
     ·rintro v rest r s' ⟨hr',rfl,left,as',hl,hm⟩
      obtain ⟨d,ds',a1,b1,rfl,r1,r2⟩:=zbr hl
      have hd':=hm d (by simp)
      have hdep:=zdd hd'
      refine wpAny_bind (ih d (by lia) (zd2 hds d hd') _ _ _ v a1 _ r1 ?_)
      simp only [Bool.false_eq_true,if_false]
      exact wpAny_pure ⟨rfl,rfl,ds',b1,r2,fun e z=>hm e (List.mem_cons_of_mem _ z)⟩
     ·rintro ⟨r1,r2⟩ s' ⟨hr',rfl,_⟩
      simp only at hr'
      subst hr'
      exact wpAny_pure h
   | _=>simp [hk] at hk'
theorem zr6:∀ (n:Nat) (d:PyData),d.depth<=n->hk d=true->∀ (A:Around) (E:Value->Shared->Prop) (s:Shared) (v:Value) (as:List Addr) (Q:Bool->Shared->Prop),Reads s.heap v d as->Q (bv d) s->wpAny (model P w) A (hashByValue n v) Q E s:=by
 intro n
 induction n with
 | zero =>
   intro d hd hk' A E s v as Q r h
   cases r with
   | int i t=>exact wpAny_of_eq (hashByValue_scannable 0 rfl) h
   | str x t=>exact wpAny_of_eq (hashByValue_scannable 0 rfl) h
   | tuple _ _ _ _=>simp [PyData.depth] at hd
   | _=>simp [hk] at hk'
 | succ n ih =>
   intro d hd hk' A E s v as Q r h
   cases r with
   | int i t=>exact wpAny_of_eq (hashByValue_scannable _ rfl) h
   | str x t=>exact wpAny_of_eq (hashByValue_scannable _ rfl) h
   | @tuple a o vs c ds as ho hc hdt hr =>
     have hds:hks ds=true:=by simpa [hk] using hk'
     rw [PyData.depth] at hd
     rw [bv] at h
     have hT:s.TypeIs (.ref a) "tuple" := ⟨o,ho,hc⟩
     unfold hashByValue
     refine wpAny_bind (wpAny_specialOf hT F.slot_tuple_hash.lookup ?_)
     show wpAny _ _ (seqItems? (.ref a) >>= _) _ _ s
     refine wpAny_bind (wpAny_seqItems ho hdt ?_)
     refine wpAny_bind ?_
     show wpAny _ _ (forIn vs _ _) _ _ s
     rw [<- Array.forIn_toList]
     refine wpAny_forIn_list _ (fun rest r s'=>r.1=none/\s'=s/\∃ left as',ReadsAll s.heap rest left as'/\(∀ d ∈ left,d ∈ ds)/\bvs left=bvs ds) _ ?_ ?_ _ _ ⟨rfl,rfl,ds,_,hr,fun _ z=>z,rfl⟩
     ·rintro v rest r s' ⟨hr',rfl,left,as',hl,hm,hb⟩
      obtain ⟨d,ds',a1,b1,rfl,r1,r2⟩:=zbr hl
      have hd':=hm d (by simp)
      have hdep:=zdd hd'
      refine wpAny_bind (ih d (by lia) (zd2 hds d hd') _ _ _ v a1 _ r1 ?_)
      rw [bvs] at hb
      cases e:bv d with
      | true =>
        rw [e] at hb
        simp only [Bool.not_true,Bool.false_eq_true,if_false]
        exact wpAny_pure ⟨rfl,rfl,ds',b1,r2,fun e z=>hm e (List.mem_cons_of_mem _ z),by simpa using hb⟩
      | false =>
        rw [e] at hb
        simp only [Bool.not_false,if_true]
        rw [<- hb] at h
        exact wpAny_pure (wpAny_pure h)
     ·rintro ⟨r1,r2⟩ s' ⟨hr',rfl,left,as',hl,hm,hb⟩
      simp only at hr'
      subst hr'
      cases hl
      rw [<- hb] at h
      exact wpAny_pure h
   | _=>simp [hk] at hk'
end
end HK
namespace HK
open PySem PySem.Spec PyProof.Rows PySem.W
mutual
noncomputable def dlt:PyData->PyData->Bool
 | .int i,.int j=>decide (i<j)
 | .str x,.str y=>decide (x.cps.toList<y.cps.toList)
 | .tuple xs,.tuple ys=>dlts xs ys
 | _,_=>false
noncomputable def dlts:List PyData->List PyData->Bool
 | [],[]=>false
 | [],_::_=>true
 | _::_,[]=>false
 | x::xs,y::ys=>if PyData.eqv x y then dlts xs ys else dlt x y
end
inductive Sh where
 | n
 | t
 | arr (s:Sh)
 | fnil
 | fcons (a r:Sh)
noncomputable def HasSh:Sh->PyData->Prop
 | .n,d=>∃ i,d = .int i
 | .t,d=>∃ x,d = .str x
 | .arr s,d=>∃ xs,d = .tuple xs/\∀ x ∈ xs,HasSh s x
 | .fnil,d=>d = .tuple []
 | .fcons a r,d=>∃ x xs,d = .tuple (x::xs)/\HasSh a x/\HasSh r (.tuple xs)
theorem zub:∀ {ds:List PyData},(∀ d ∈ ds,hk d=true)->hks ds=true
 | [],_=>rfl
 | d::ds,h=>by rw [hks,h d (by simp),zub fun e z=>h e (List.mem_cons_of_mem _ z)];rfl
theorem sh_hk:∀ (σ:Sh) (d:PyData),HasSh σ d->hk d=true
 | .n,_,⟨_,e⟩=>by subst e;rfl
 | .t,_,⟨_,e⟩=>by subst e;rfl
 | .arr s,_,⟨xs,e,h⟩=>by subst e;rw [hk];exact zub fun d z=>sh_hk s d (h d z)
 | .fnil,_,e=>by subst e;rfl
 | .fcons a r,_,⟨x,xs,e,h1,h2⟩=>by
   subst e
   have:=sh_hk r _ h2
   rw [hk] at this
   rw [hk,hks,sh_hk a x h1,this]
   rfl
theorem zgk {σ:Sh} {d e:PyData} (h:HasSh σ d) (h':HasSh σ e):PyData.eqv d e=true↔d=e:=L3.eqv_solid d e (zcl d (sh_hk σ d h)) (zcl e (sh_hk σ e h'))
structure TO (F:PyData->Prop):Prop where
 irr:∀ a,F a->dlt a a=false
 tr:∀ a b c,F a->F b->F c->dlt a b=true->dlt b c=true->dlt a c=true
 tri:∀ a b,F a->F b->dlt a b=true\/a=b\/dlt b a=true
theorem zcr {σ:Sh} {x y:PyData} (hx:HasSh σ x) (hy:HasSh σ y) (xs ys:List PyData):dlts (x::xs) (y::ys)=true↔(x=y/\dlts xs ys=true)\/(x ≠ y/\dlt x y=true):=by
 rw [dlts]
 by_cases e:x=y
 ·rw [if_pos ((zgk hx hy).mpr e)]
  simp [e]
 ·rw [if_neg (fun c=>e ((zgk hx hy).mp c))]
  simp [e]
theorem zm7 {σ:Sh} (T:TO (HasSh σ)):∀ {xs:List PyData},(∀ x ∈ xs,HasSh σ x)->dlts xs xs=false
 | [],_=>rfl
 | x::xs,h=>by
   have hx:=h x (by simp)
   rw [dlts,if_pos ((zgk hx hx).mpr rfl)]
   exact zm7 T fun y z=>h y (List.mem_cons_of_mem _ z)
theorem zo0 {σ:Sh} (T:TO (HasSh σ)) {x y z:PyData} {xs ys zs:List PyData} (hx:HasSh σ x) (hy:HasSh σ y) (hz:HasSh σ z) (ih:dlts xs ys=true->dlts ys zs=true->dlts xs zs=true) (h1:dlts (x::xs) (y::ys)=true) (h2:dlts (y::ys) (z::zs)=true):dlts (x::xs) (z::zs)=true:=by
 rw [zcr hx hz]
 rcases (zcr hx hy xs ys).mp h1 with ⟨rfl,a⟩ | ⟨a,b⟩
 ·rcases (zcr hx hz ys zs).mp h2 with ⟨rfl,c⟩ | ⟨c,d⟩
  ·exact .inl ⟨rfl,ih a c⟩
  ·exact .inr ⟨c,d⟩
 ·rcases (zcr hy hz ys zs).mp h2 with ⟨rfl,c⟩ | ⟨c,d⟩
  ·exact .inr ⟨a,b⟩
  ·have t:=T.tr x y z hx hy hz b d
   refine .inr ⟨fun e=>?_,t⟩
   rw [e,T.irr z hz] at t
   cases t
theorem zpb {σ:Sh} (T:TO (HasSh σ)):∀ {xs ys zs:List PyData},(∀ x ∈ xs,HasSh σ x)->(∀ x ∈ ys,HasSh σ x)->(∀ x ∈ zs,HasSh σ x)->dlts xs ys=true->dlts ys zs=true->dlts xs zs=true
 | [],[],_,_,_,_,h,_=>by cases h
 | [],_::_,[],_,_,_,_,h=>by cases h
 | [],_::_,_::_,_,_,_,_,_=>rfl
 | _::_,[],_,_,_,_,h,_=>by cases h
 | _::_,_::_,[],_,_,_,_,h=>by cases h
 | x::xs,y::ys,z::zs,a,b,c,h1,h2=>zo0 T (a x (by simp)) (b y (by simp)) (c z (by simp)) (zpb T (fun q w=>a q (List.mem_cons_of_mem _ w)) (fun q w=>b q (List.mem_cons_of_mem _ w)) (fun q w=>c q (List.mem_cons_of_mem _ w))) h1 h2
theorem znw {σ:Sh} (T:TO (HasSh σ)) {x y:PyData} {xs ys:List PyData} (hx:HasSh σ x) (hy:HasSh σ y) (ih:dlts xs ys=true\/xs=ys\/dlts ys xs=true):dlts (x::xs) (y::ys)=true\/x::xs=y::ys\/dlts (y::ys) (x::xs)=true:=by
 rw [zcr hx hy,zcr hy hx]
 by_cases e:x=y
 ·subst e
  rcases ih with i | i | i
  ·exact .inl (.inl ⟨rfl,i⟩)
  ·exact .inr (.inl (by rw [i]))
  ·exact .inr (.inr (.inl ⟨rfl,i⟩))
 ·rcases T.tri x y hx hy with i | i | i
  ·exact .inl (.inr ⟨e,i⟩)
  ·exact absurd i e
  ·exact .inr (.inr (.inr ⟨Ne.symm e,i⟩))
theorem zlt {σ:Sh} (T:TO (HasSh σ)):∀ {xs ys:List PyData},(∀ x ∈ xs,HasSh σ x)->(∀ x ∈ ys,HasSh σ x)->dlts xs ys=true\/xs=ys\/dlts ys xs=true
 | [],[],_,_ => .inr (.inl rfl)
 | [],_::_,_,_ => .inl rfl
 | _::_,[],_,_ => .inr (.inr rfl)
 | x::xs,y::ys,a,b=>znw T (a x (by simp)) (b y (by simp)) (zlt T (fun q w=>a q (List.mem_cons_of_mem _ w)) (fun q w=>b q (List.mem_cons_of_mem _ w)))
theorem zyc {x y:Str} (h:x.cps.toList=y.cps.toList):x=y:=by
 obtain ⟨a⟩:=x
 obtain ⟨b⟩:=y
 congr
 exact Array.toList_inj.mp h
theorem zgo:∀ σ:Sh,TO (HasSh σ)
 | .n=>by
   refine ⟨fun a ⟨i,e⟩=>?_,fun a b c ⟨i,e⟩ ⟨j,e2⟩ ⟨k,e3⟩ h1 h2=>?_,fun a b ⟨i,e⟩ ⟨j,e2⟩=>?_⟩
   ·subst e;simp [dlt]
   ·subst e e2 e3;simp [dlt] at *; lia
   ·subst e e2;simp [dlt];lia
 | .t=>by
   refine ⟨fun a ⟨i,e⟩=>?_,fun a b c ⟨i,e⟩ ⟨j,e2⟩ ⟨k,e3⟩ h1 h2=>?_,fun a b ⟨i,e⟩ ⟨j,e2⟩=>?_⟩
   ·subst e;simp [dlt,List.lt_irrefl]
   ·subst e e2 e3
    simp only [dlt,decide_eq_true_eq] at *
    exact List.lt_trans h1 h2
   ·subst e e2
    simp only [dlt,decide_eq_true_eq]
    by_cases c:i.cps.toList<j.cps.toList
    ·exact .inl c
    ·by_cases c2:j.cps.toList<i.cps.toList
     ·exact .inr (.inr c2)
     ·exact .inr (.inl (by rw [zyc (List.le_antisymm (List.not_lt.mp c2) (List.not_lt.mp c))]))
 | .arr s=>by
   have T:=zgo s
   refine ⟨fun a ⟨xs,e,h⟩=>?_,fun a b c ⟨xs,e,h⟩ ⟨ys,e2,h2⟩ ⟨zs,e3,h3⟩ h4 h5=>?_,fun a b ⟨xs,e,h⟩ ⟨ys,e2,h2⟩=>?_⟩
   ·subst e;exact zm7 T h
   ·subst e e2 e3;exact zpb T h h2 h3 h4 h5
   ·subst e e2
    rcases zlt T h h2 with i | i | i
    ·exact .inl i
    ·exact .inr (.inl (by rw [i]))
    ·exact .inr (.inr i)
 | .fnil=>by
   refine ⟨fun a e=>?_,fun a b c e e2 e3 h4 h5=>?_,fun a b e e2=>?_⟩
   ·have e:a = .tuple []:=e
    subst e;rfl
   ·have e:a = .tuple []:=e
    have e2:b = .tuple []:=e2
    subst e e2;cases h4
   ·have e:a = .tuple []:=e
    have e2:b = .tuple []:=e2
    exact .inr (.inl (e.trans e2.symm))
 | .fcons f r=>by
   have T:=zgo f
   have U:=zgo r
   refine ⟨fun a ⟨x,xs,e,h,g⟩=>?_,fun a b c ⟨x,xs,e,h,g⟩ ⟨y,ys,e2,h2,g2⟩ ⟨z,zs,e3,h3,g3⟩ h4 h5=>?_,fun a b ⟨x,xs,e,h,g⟩ ⟨y,ys,e2,h2,g2⟩=>?_⟩
   ·subst e
    show dlts (x::xs) (x::xs)=false
    rw [dlts,if_pos ((zgk h h).mpr rfl)]
    exact U.irr _ g
   ·subst e e2 e3
    exact zo0 T h h2 h3 (fun p q=>U.tr _ _ _ g g2 g3 p q) h4 h5
   ·subst e e2
    have:=znw T h h2 (xs:=xs) (ys:=ys) (by
     rcases U.tri _ _ g g2 with i | i | i
     ·exact .inl i
     ·exact .inr (.inl (by injection i))
     ·exact .inr (.inr i))
    rcases this with i | i | i
    ·exact .inl i
    ·exact .inr (.inl (by rw [i]))
    ·exact .inr (.inr i)
theorem zw4 (σ:Sh):L6.WO (fun a b:{ d:PyData // HasSh σ d }=>dlt a.1 b.1):=by
 have T:=zgo σ
 refine ⟨fun a=>T.irr _ a.2,fun a b c h h'=>T.tr _ _ _ a.2 b.2 c.2 h h',fun a b c h=>?_⟩
 rcases T.tri a.1 b.1 a.2 b.2 with i | i | i
 ·exact .inl i
 ·right;rw [<- i];exact h
 ·exact .inr (T.tr _ _ _ b.2 a.2 c.2 i h)
end HK
namespace HK
open PySem PySem.Spec PyProof.Rows PySem.W
noncomputable def LtOk (d e:PyData):Prop:=∀ (prog:Program) (w:World) (A:Around) (E:Value->Shared->Prop) (s:Shared) (v u:Value) (as bs:List Addr) (Q:Value->Shared->Prop),Reads s.heap v d as->Reads s.heap u e bs->A.units+d.depth+2<cLine->Q (.bool (dlt d e)) s->wpAny (model prog w) A (compareOp .Lt v u) Q E s
section
open PySem.SeqAt
open PySem.AutoSeq1 (wpAny_loadPart')
open PySem.MeetsSeq PySem.MeetsSeq2 PySem.MeetsSeq3
theorem zft (l b:Addr) (items items2:Array Value) (n n2:Nat) (dd dd2:Option Addr) (sl sl2:Array (Option Value)) (xs ys:List PyData) (hx:PyData.canLayAll0 xs=true) (hy:PyData.canLayAll0 ys=true) (hp:∀ p ∈ xs.zip ys,LtOk p.1 p.2) :
 Meets (Builtin.«tuple.__lt__» ⟨[.ref l,.ref b],[]⟩)
  (fun A R s=>s.heap.get? l=some { cls := .type "tuple", dict:=dd,data := .seq items n,slots:=sl }/\s.heap.get? b=some { cls := .type "tuple", dict:=dd2,data := .seq items2 n2,slots:=sl2 } /\
   (∃ as bs,ReadsAll s.heap items.toList xs as/\ReadsAll s.heap items2.toList ys bs)/\A.units+PyData.depthAll xs+3<cLine/\R (.ok (.ret (.bool (dlts xs ys)))) s) :=
 .of_wp fun prog w A R s h=>by
  obtain ⟨hp',g,d,tk,os⟩:=s;obtain ⟨hl,hb,⟨as,bs,r1,r2⟩,hu,h⟩:=h
  have f2:=AutoSeq1.sub_tuple_tuple
  have z1:items.size=xs.length:=by simpa using ReadsAll.length _ _ _ r1
  have z2:items2.size=ys.length:=by simpa using ReadsAll.length _ _ _ r2
  wp_walk using wpAny_loadPart' hl,wpAny_loadPart' hb,wpAny_forIn_list _ (fun rest b s'=>b.1=none/\s'=⟨hp',g,d,tk,os⟩/\∃ (vs ws:List Value) (xs' ys':List PyData) (as' bs':List Addr),rest=vs.zip ws /\
   ReadsAll hp' vs xs' as'/\ReadsAll hp' ws ys' bs'/\xs'.length+items2.size=ys'.length+items.size/\PyData.canLayAll0 xs'=true/\PyData.canLayAll0 ys'=true/\(∀ p ∈ xs'.zip ys',LtOk p.1 p.2)/\PyData.depthAll xs'<=PyData.depthAll xs/\R (.ok (.ret (.bool (dlts xs' ys')))) ⟨hp',g,d,tk,os⟩) _
  case turn =>
   rintro ⟨y,x⟩ rest b s' ⟨hb',rfl,vs,ws,xs',ys',as',bs',hz,hvi,hwi,hlen,cx,cy,hpp,hdp,hR⟩
   cases hvi with
   | nil=>rw [List.zip_nil_left] at hz;cases hz
   | @cons v vs d1 ds1 a1 b1 q1 hvi' =>
     cases hwi with
     | nil=>rw [List.zip_nil_right] at hz;cases hz
     | @cons v2 vs2 d2 ds2 a2 b2 q2 hwi' =>
       rw [List.zip_cons_cons] at hz
       injection hz with hyx hrest
       injection hyx with hy' hx'
       subst hy' hx'
       rw [dlts] at hR
       simp only [List.length_cons] at hlen
       simp only [PyData.canLayAll0,Bool.and_eq_true] at cx cy
       rw [PyData.depthAll] at hdp
       refine wpAny_bind (eqBoolOverData _ _ _ _ _ _ _ d1 d2 _ _ _ q1 q2 cx.1 cy.1 (by show A.units+1+min d1.depth d2.depth<cLine;lia) ?_)
       cases e:PyData.eqv d1 d2 with
       | true =>
         rw [e,if_pos rfl] at hR
         wp_walk
         exact ⟨rfl,rfl,_,_,_,_,_,_,hrest,hvi',hwi',by lia,cx.2,cy.2,fun p z=>hpp p (List.mem_cons_of_mem _ z),by lia,hR⟩
       | false =>
         rw [e,if_neg Bool.false_ne_true] at hR
         have hri:∀ (E:Value->Shared->Prop) (Q:Value->Shared->Prop),Q (.bool (dlt d1 d2)) ⟨hp',g,d,tk,os⟩->wpAny (model prog w) A.in1 (richCompare .Lt y x) Q E ⟨hp',g,d,tk,os⟩:=fun E Q q =>
          hpp (d1,d2) (by simp) prog w A.in1 E ⟨hp',g,d,tk,os⟩ y x _ _ Q q1 q2 (by show A.units+1+d1.depth+2<cLine;lia) q
         wp_walk using hri
         exact ⟨_,rfl,by simpa using hR⟩
  case fin =>
   rintro ⟨b1,b2⟩ s' ⟨hb',rfl,vs,ws,xs',ys',as',bs',hz,hvi,hwi,hlen,cx,cy,hpp,hdp,hR⟩
   simp only at hb'
   subst hb'
   have hv:dlts xs' ys'=decide (items.size<items2.size):=by
    cases hvi with
    | nil =>
      cases hwi with
      | nil =>
        simp only [List.length_nil] at hlen
        exact (decide_eq_false (by lia)).symm
      | cons c u =>
        simp only [List.length_nil,List.length_cons] at hlen
        exact (decide_eq_true (by lia)).symm
    | cons a t =>
      cases hwi with
      | nil =>
        simp only [List.length_nil,List.length_cons] at hlen
        exact (decide_eq_false (by lia)).symm
      | cons c u =>
        rw [List.zip_cons_cons] at hz
        cases hz
   rw [hv] at hR
   wp_walk
   exact ⟨_,rfl,by simpa [Builtin.Tuple.tupleCompareSizes] using hR⟩
  case h =>
   exact ⟨rfl,rfl,items.toList,items2.toList,xs,ys,as,bs,rfl,r1,r2,by lia,hx,hy,hp,Nat.le_refl _,h⟩
end
theorem ze6 {xs ys:List PyData} (hx:PyData.canLayAll0 xs=true) (hy:PyData.canLayAll0 ys=true) (hp:∀ p ∈ xs.zip ys,LtOk p.1 p.2):LtOk (.tuple xs) (.tuple ys):=fun prog w A E s v u as bs Q r1 r2 hu h=>by
 cases r1 with
 | @tuple a o vs c _ _ h1 h2 h3 h4 =>
   cases r2 with
   | @tuple a2 o2 vs2 c2 _ _ k1 k2 k3 k4 =>
     obtain ⟨oc,odd,od,osl⟩:=o
     obtain ⟨oc2,odd2,od2,osl2⟩:=o2
     simp only at h2 h3 k2 k3
     subst h2 h3 k2 k3
     rw [PyData.depth] at hu
     exact richCompare_meets_room (op := .Lt) ⟨_,h1,rfl⟩ ⟨_,k1,rfl⟩ PySem.F.slot_tuple_lt PySem.F.entry_tuple_lt (PySem.F.args_tuple_lt_2 _ _) (zft a a2 vs vs2 c c2 odd odd2 osl osl2 xs ys hx hy hp)
      ⟨h1,k1,⟨_,_,h4,k4⟩,by lia,show Value.bool (dlts xs ys) ≠ Value.notImplemented/\Q (.bool (dlts xs ys)) s from ⟨(fun x=>nomatch x),h⟩⟩ (by lia)
end HK
namespace HK
open PySem PySem.Spec PyProof.Rows PySem.W
noncomputable def zgw (d e:PyData):Prop:=∀ (prog:Program) (w:World) (A:Around) (E:Value->Shared->Prop) (s:Shared) (v u:Value) (as bs:List Addr) (b:Bool) (Q:Bool->Shared->Prop),Reads s.heap v d as->Reads s.heap u e bs->A.units+d.depth+2<cLine->Q (dlt d e) s->wpAny (model prog w) A (oneLt' b v u) Q E s
theorem zjz:∀ {xs:List PyData},PyData.canLayAll0 xs=true->∀ x ∈ xs,x.canLay0=true
 | x::xs,h,y,hy=>by
   simp only [PyData.canLayAll0,Bool.and_eq_true] at h
   rcases List.mem_cons.mp hy with rfl | hy
   ·exact h.1
   ·exact zjz h.2 y hy
theorem zf7 {d e:PyData} (L:LtOk d e) (prog:Program) (w:World) (A:Around) (E:Value->Shared->Prop) (s:Shared) (v u:Value) (as bs:List Addr) (Q:Bool->Shared->Prop) (r1:Reads s.heap v d as) (r2:Reads s.heap u e bs) (hu:A.units+d.depth+2<cLine) (h:Q (dlt d e) s):wpAny (model prog w) A (oneLt' false v u) Q E s :=
 kat_one v u (L prog w A E s v u as bs _ r1 r2 hu h)
theorem zej {xs ys:List PyData} (hx:PyData.canLayAll0 xs=true) (hy:PyData.canLayAll0 ys=true) (hp:∀ p ∈ xs.zip ys,LtOk p.1 p.2):zgw (.tuple xs) (.tuple ys):=fun prog w A E s v u as bs b Q r1 r2 hu h=>by
 cases b with
 | false=>exact zf7 (ze6 hx hy hp) prog w A E s v u as bs Q r1 r2 hu h
 | true =>
   cases r1 with
   | @tuple a o vs c _ _ h1 h2 h3 h4 =>
     cases r2 with
     | @tuple a2 o2 vs2 c2 _ _ k1 k2 k3 k4 =>
       obtain ⟨oc,odd,od,osl⟩:=o
       obtain ⟨oc2,odd2,od2,osl2⟩:=o2
       simp only at h2 h3 k2 k3
       subst h2 h3 k2 k3
       rw [PyData.depth] at hu
       rw [oneLt'_eq]
       simp only [if_true]
       refine wpAny_bind (wpAny_cRoomFor_or (.inr (by lia)) ?_)
       refine wpAny_bind (wpAny_callSpecialIfBound?_slot ⟨_,h1,rfl⟩ F.slot_tuple_lt (call_meets F.slot_tuple_lt ⟨_,h1,rfl⟩ F.entry_tuple_lt (F.args_tuple_lt_2 _ _) (zft a a2 vs vs2 c c2 odd odd2 osl osl2 xs ys hx hy hp) ⟨h1,k1,⟨_,_,h4,k4⟩,by lia,?_⟩))
       exact wpAny_truthy_bool h
theorem zaq {xs:List PyData} (h:(PyData.tuple xs).canLay0=true):PyData.canLayAll0 xs=true:=by simpa [PyData.canLay0] using h
theorem both:∀ σ:Sh,(∀ d e,HasSh σ d->HasSh σ e->d.canLay0=true->e.canLay0=true->LtOk d e/\zgw d e)/\(∀ xs ys,HasSh σ (.tuple xs)->HasSh σ (.tuple ys)->PyData.canLayAll0 xs=true->PyData.canLayAll0 ys=true->∀ p ∈ xs.zip ys,LtOk p.1 p.2/\zgw p.1 p.2)
 | .n=>by
   refine ⟨fun d e ⟨i,h1⟩ ⟨j,h2⟩ _ _=>?_,fun xs ys ⟨i,h1⟩=>by cases h1⟩
   subst h1 h2
   have L:LtOk (.int i) (.int j):=fun prog w A E s v u as bs Q r1 r2 hu h=>by
    cases r1;cases r2
    exact lt_int (by simpa [dlt] using h)
   refine ⟨L,fun prog w A E s v u as bs b Q r1 r2 hu h=>?_⟩
   cases b with
   | false=>exact zf7 L prog w A E s v u as bs Q r1 r2 hu h
   | true =>
     cases r1;cases r2
     exact oneLt_int (by simpa [dlt] using h)
 | .t=>by
   refine ⟨fun d e ⟨i,h1⟩ ⟨j,h2⟩ _ _=>?_,fun xs ys ⟨i,h1⟩=>by cases h1⟩
   subst h1 h2
   have L:LtOk (.str i) (.str j):=fun prog w A E s v u as bs Q r1 r2 hu h=>by
    cases r1;cases r2
    exact lt_str (by simpa [dlt] using h)
   refine ⟨L,fun prog w A E s v u as bs b Q r1 r2 hu h=>?_⟩
   cases b with
   | false=>exact zf7 L prog w A E s v u as bs Q r1 r2 hu h
   | true =>
     cases r1;cases r2
     exact oneLt_str (by simpa [dlt] using h)
 | .arr s=>by
   obtain ⟨B,_⟩:=both s
   have pr:∀ xs ys,HasSh (.arr s) (.tuple xs)->HasSh (.arr s) (.tuple ys)->PyData.canLayAll0 xs=true->PyData.canLayAll0 ys=true->∀ p ∈ xs.zip ys,LtOk p.1 p.2/\zgw p.1 p.2:=fun xs ys ⟨xs',e1,h1⟩ ⟨ys',e2,h2⟩ c1 c2 p hp=>by
    cases e1;cases e2
    obtain ⟨q1,q2⟩:=List.of_mem_zip (show (p.1,p.2) ∈ xs.zip ys from hp)
    exact B p.1 p.2 (h1 _ q1) (h2 _ q2) (zjz c1 _ q1) (zjz c2 _ q2)
   refine ⟨fun d e hd he cd ce=>?_,pr⟩
   obtain ⟨xs,rfl,h1⟩:=id hd
   obtain ⟨ys,rfl,h2⟩:=id he
   have hp:=pr xs ys hd he (zaq cd) (zaq ce)
   exact ⟨ze6 (zaq cd) (zaq ce) fun p z=>(hp p z).1,zej (zaq cd) (zaq ce) fun p z=>(hp p z).1⟩
 | .fnil=>by
   refine ⟨fun d e hd he _ _=>?_,fun xs ys hd _ _ _ p hp=>?_⟩
   ·have hd:d = .tuple []:=hd
    have he:e = .tuple []:=he
    subst hd he
    exact ⟨ze6 rfl rfl (fun p z=>(List.not_mem_nil z).elim),zej rfl rfl (fun p z=>(List.not_mem_nil z).elim)⟩
   ·have hd:PyData.tuple xs = .tuple []:=hd
    cases hd
    cases hp
 | .fcons a r=>by
   obtain ⟨B,_⟩:=both a
   obtain ⟨_,C⟩:=both r
   have pr:∀ xs ys,HasSh (.fcons a r) (.tuple xs)->HasSh (.fcons a r) (.tuple ys)->PyData.canLayAll0 xs=true->PyData.canLayAll0 ys=true->∀ p ∈ xs.zip ys,LtOk p.1 p.2/\zgw p.1 p.2:=fun xs ys ⟨x,xs',e1,h1,g1⟩ ⟨y,ys',e2,h2,g2⟩ c1 c2 p hp=>by
    cases e1;cases e2
    simp only [PyData.canLayAll0,Bool.and_eq_true] at c1 c2
    rw [List.zip_cons_cons] at hp
    rcases List.mem_cons.mp hp with rfl | hp
    ·exact B x y h1 h2 c1.1 c2.1
    ·exact C xs' ys' g1 g2 c1.2 c2.2 p hp
   refine ⟨fun d e hd he cd ce=>?_,pr⟩
   obtain ⟨x,xs,rfl,h1,g1⟩:=id hd
   obtain ⟨y,ys,rfl,h2,g2⟩:=id he
   have hp:=pr _ _ hd he (zaq cd) (zaq ce)
   exact ⟨ze6 (zaq cd) (zaq ce) fun p z=>(hp p z).1,zej (zaq cd) (zaq ce) fun p z=>(hp p z).1⟩
section
variable {prog : Program} {w : World} {A : Around} {E : Value → Shared → Prop} {s : Shared}
theorem zl6 {b fin:Bool} {Q:Bool->Shared->Prop}:∀ (vs us:List Value) (xs ys:List PyData) (as bs:List Addr) (i:Nat),ReadsAll s.heap vs xs as->ReadsAll s.heap us ys bs->PyData.canLayAll0 xs=true->PyData.canLayAll0 ys=true->(∀ p ∈ xs.zip ys,zgw p.1 p.2)->A.units+PyData.depthAll xs+2<cLine->fin=decide (xs.length<ys.length)->Q (dlts xs ys) s->KatLex prog w A b fin Q (vs.zip us) i s
 | [],us,xs,ys,as,bs,i,r1,r2,_,_,_,_,hf,h=>by
   cases r1
   rw [List.zip_nil_left]
   refine kat_nil ?_
   cases ys with
   | nil=>rw [hf];exact h
   | cons y ys=>rw [hf];exact h
 | v::vs,[],xs,ys,as,bs,i,r1,r2,_,_,_,_,hf,h=>by
   cases r2
   rw [List.zip_nil_right]
   refine kat_nil ?_
   obtain ⟨d,ds',a,b',rfl,_,_⟩:=zbr r1
   rw [hf]
   exact h
 | v::vs,u::us,xs,ys,as,bs,i,r1,r2,c1,c2,hp,hu,hf,h=>by
   obtain ⟨d,ds,a1,b1,rfl,q1,t1⟩:=zbr r1
   obtain ⟨e,es,a2,b2,rfl,q2,t2⟩:=zbr r2
   simp only [PyData.canLayAll0,Bool.and_eq_true] at c1 c2
   rw [PyData.depthAll] at hu
   rw [List.zip_cons_cons]
   rw [dlts] at h
   refine kat_cons (SeqAt.eqBoolOverData _ _ _ _ _ _ _ d e _ _ _ q1 q2 c1.1 c2.1 (by lia) ?_)
   cases he:PyData.eqv d e with
   | true =>
     rw [he,if_pos rfl] at h
     refine kat_yes (zl6 vs us ds es b1 b2 (i+1) t1 t2 c1.2 c2.2 (fun p z=>hp p (List.mem_cons_of_mem _ z)) (by lia) ?_ h)
     rw [hf]
     simp
   | false =>
     rw [he,if_neg Bool.false_ne_true] at h
     exact kat_no (hp (d,e) (by simp) prog w A _ s v u a1 a2 _ _ q1 q2 (by show A.units+d.depth+2<cLine;lia) h)
noncomputable def tyS:Sh->String
 | .n => "int"
 | .t => "str"
 | _ => "tuple"
noncomputable def hdS:Sh->Sh
 | .arr s=>s
 | .fcons a _=>a
 | s=>s
theorem z4h:∀ {σ:Sh} {x:PyData} {xs:List PyData},HasSh σ (.tuple (x::xs))->HasSh (hdS σ) x
 | .n,_,_,⟨_,e⟩=>by cases e
 | .t,_,_,⟨_,e⟩=>by cases e
 | .arr s,_,_,⟨_,e,h⟩=>by cases e;exact h _ (by simp)
 | .fnil,_,_,e=>by
   have e:PyData.tuple _=PyData.tuple []:=e
   cases e
 | .fcons a r,_,_,⟨_,_,e,h,_⟩=>by cases e;exact h
theorem ze4 {M:Model} {h:Heap} {b:Addr} {o:Obj} (h1:h.get? b=some o) (h2:o.cls = .type "tuple"):Looks M h (typeOf (.ref b)) (.type "tuple"):=by
 have:=(show Looks M h (typeOf (.ref b)) o.cls from (Looks.ld h1).andThen .now)
 rw [h2] at this
 exact this
theorem zy5 {M:Model} {h:Heap}:∀ {σ:Sh} {d:PyData} {v:Value} {as:List Addr},HasSh σ d->Reads h v d as->Looks M h (typeOf v) (.type (tyS σ))
 | .n,_,_,_,⟨_,e⟩,r=>by subst e;cases r;exact .now
 | .t,_,_,_,⟨_,e⟩,r=>by subst e;cases r;exact .now
 | .arr s,_,_,_,⟨_,e,_⟩,r=>by
   subst e
   cases r with
   | tuple h1 h2 h3 h4=>exact ze4 h1 h2
 | .fnil,_,_,_,e,r=>by
   have e:_=PyData.tuple []:=e
   subst e
   cases r with
   | tuple h1 h2 h3 h4=>exact ze4 h1 h2
 | .fcons _ _,_,_,_,⟨_,_,e,_,_⟩,r=>by
   subst e
   cases r with
   | tuple h1 h2 h3 h4=>exact ze4 h1 h2
noncomputable def TupS (σ:Sh) (h:Heap) (v:Value):Prop:=∃ b ds as,v = .ref b/\Reads h (.ref b) (.tuple ds) as/\HasSh σ (.tuple ds)
theorem zkw {M:Model} {σ:Sh}:∀ (vs:List Value),(∀ v ∈ vs,TupS σ s.heap v)->∃ fs:List (Option Value),fs.length=vs.length/\(∀ f,some f ∈ fs->Looks M s.heap (typeOf f) (.type (tyS (hdS σ))))/\∀ (E:Value->Shared->Prop) (Q:List (Option Value)->Shared->Prop),Q fs s->wpAny M A (vs.mapM firstOfTuple') Q E s
 | [],_=>⟨[],rfl,(fun f z=>(List.not_mem_nil z).elim),fun E Q h=>by rw [List.mapM_nil];exact wpAny_pure h⟩
 | v::vs,h=>by
   obtain ⟨fs,h1,h2,h3⟩:=zkw (M:=M) vs fun u z=>h u (List.mem_cons_of_mem _ z)
   obtain ⟨b,ds,as,rfl,r,hs⟩:=h v (by simp)
   cases r with
   | @tuple _ o items c _ _ k1 k2 k3 k4 =>
     refine ⟨items[0]? :: fs,by simp [h1],fun f z=>?_,fun E Q q=>?_⟩
     ·rcases List.mem_cons.mp z with z | z
      ·cases hv:items.toList with
       | nil =>
         rw [<- Array.getElem?_toList,hv] at z
         cases z
       | cons i its =>
         rw [hv] at k4
         obtain ⟨d,ds',a1,b1,rfl,q1,q2⟩:=zbr k4
         rw [<- Array.getElem?_toList,hv] at z
         cases z
         exact zy5 (z4h hs) q1
      ·exact h2 f z
     ·rw [List.mapM_cons]
      refine wpAny_bind ?_
      rw [kas_first_eq]
      refine wpAny_bind (Looks.here (show Looks M s.heap (typeOf (.ref b)) o.cls from (Looks.ld k1).andThen .now) ?_)
      rw [k2,if_neg (by first | decide | simp)]
      refine wpAny_bind (listItems_at k1 k3 (wpAny_pure ?_))
      exact wpAny_bind (h3 _ _ (wpAny_pure q))
theorem zym {M:Model} {σ:Sh} {vs:List Value} (h:∀ v ∈ vs,TupS σ s.heap v) (h2:2<=vs.length):∃ kd:SortKind,(kd=tuples' true\/kd=tuples' false\/kd=general'\/kd=oneType')/\∀ (E:Value->Shared->Prop) (Q:SortKind->Shared->Prop),Q kd s->wpAny M A (keyKind' vs.toArray) Q E s:=by
 obtain ⟨fs,l1,l2,l3⟩:=zkw (M:=M) (A:=A) vs h
 have beqT:∀ T:Value,(∃ x,T = .type x)->(T == T)=true:=fun T ⟨x,e⟩=>by subst e;simp
 by_cases ha:fs.toArray.all (fun x=>x.isSome)=true
 ·refine ⟨tuples' (Value.type (tyS (hdS σ)) != Value.type "tuple"),?_,fun E Q q=>?_⟩
  ·cases (Value.type (tyS (hdS σ)) != Value.type "tuple")
   ·exact .inr (.inl rfl)
   ·exact .inl rfl
  ·rw [kat_kind_eq,List.mapM_toArray,map_eq_pure_bind]
   refine wpAny_bind (wpAny_bind (l3 _ _ (wpAny_pure ?_)))
   rw [if_pos ha]
   refine wpAny_bind (wpAny_rule ?_)
   have hfm:(fs.toArray.filterMap id)=(fs.filterMap id).toArray:=by simp
   have hlen:0<(fs.filterMap id).length:=by
    cases fs with
    | nil=>simp at l1;lia
    | cons f fr =>
      cases f with
      | none=>simp at ha
      | some f=>simp
   rw [hfm,oneTypeOnly'_eq,List.mapM_toArray,map_eq_pure_bind]
   refine wpAny_bind (wpAny_bind (wpAny_bind (kas_mapM (r:=Value.type (tyS (hdS σ))) _ (fun v hv Q' hq=>(l2 v (by simpa using hv)).here hq) (wpAny_pure ?_))))
   generalize fs.filterMap id=gs at hlen ⊢
   obtain ⟨g,gr,rfl⟩:∃ g gr,gs=g::gr:=by
    match gs,hlen with
    | g::gr,_=>exact ⟨g,gr,rfl⟩
   have hall2:((List.map (fun _=>Value.type (tyS (hdS σ))) (g::gr)).toArray.all fun x=>x == Value.type (tyS (hdS σ)))=true:=by
    simp only [List.all_toArray,List.all_map,List.all_eq_true]
    intro _ _
    exact beqT _ ⟨_,rfl⟩
   have h0:(List.map (fun _=>Value.type (tyS (hdS σ))) (g::gr)).toArray[0]? = some (Value.type (tyS (hdS σ))):=by simp
   rw [h0]
   simp only [hall2,if_true]
   exact wpAny_pure (wpAny_pure q)
 ·by_cases hf:(fs.toArray[0]?.bind id).isSome=true
  ·refine ⟨general',.inr (.inr (.inl rfl)),fun E Q q=>?_⟩
   rw [kat_kind_eq,List.mapM_toArray,map_eq_pure_bind]
   refine wpAny_bind (wpAny_bind (l3 _ _ (wpAny_pure ?_)))
   rw [if_neg ha,if_pos hf]
   exact wpAny_pure q
  ·refine ⟨oneType',.inr (.inr (.inr rfl)),fun E Q q=>?_⟩
   rw [kat_kind_eq,List.mapM_toArray,map_eq_pure_bind]
   refine wpAny_bind (wpAny_bind (l3 _ _ (wpAny_pure ?_)))
   rw [if_neg ha,if_neg hf]
   rw [oneTypeOnly'_eq,List.mapM_toArray,map_eq_pure_bind]
   refine wpAny_bind (wpAny_bind (wpAny_bind (kas_mapM (r:=Value.type "tuple") _ (fun v hv Q' hq=>?_) (wpAny_pure ?_))))
   ·obtain ⟨b,ds,as,rfl,r,hs⟩:=h v hv
    cases r with
    | tuple k1 k2 k3 k4 =>
      exact (ze4 k1 k2).here hq
   ·obtain ⟨v₁,rest,rfl⟩:∃ v₁ rest,vs=v₁::rest:=by
     match vs,h2 with
     | v₁::rest,_=>exact ⟨v₁,rest,rfl⟩
    have hall2:((List.map (fun _=>Value.type "tuple") (v₁::rest)).toArray.all fun x=>x == Value.type "tuple")=true:=by
     simp only [List.all_toArray,List.all_map,List.all_eq_true]
     intro _ _
     exact beqT _ ⟨_,rfl⟩
    have h0:(List.map (fun _=>Value.type "tuple") (v₁::rest)).toArray[0]? = some (Value.type "tuple"):=by simp
    rw [h0]
    simp only [hall2,if_true]
    exact wpAny_pure (wpAny_pure q)
theorem zo5 {σ:Sh} {kd:List PyData} {d0:PyData} (h0:HasSh σ d0) (h:∀ d ∈ kd,HasSh σ d) (i:Nat):HasSh σ (kd.getD i d0):=by
 rw [List.getD_eq_getElem?_getD]
 cases e:kd[i]? with
 | none=>exact h0
 | some d=>exact h d (List.mem_of_getElem? e)
open L6 in
theorem zys {σ:Sh} {kd:List PyData} {vs:List Value} {d0:PyData} (h0:HasSh σ d0) (hs:∀ d ∈ kd,HasSh σ d) (hl:kd.length=vs.length) (la:∀ d ∈ kd,d.canLay0=true) (de:∀ d ∈ kd,d.depth<=8) (hu:A.units+12<cLine)
 (hk:∀ (i:Nat) v d,vs[i]? = some v->kd[i]? = some d->∃ b ds as,v = .ref b/\d = .tuple ds/\Reads s.heap (.ref b) d as):KeysOk prog w A s vs vs (fun a b:{ d:PyData // HasSh σ d }=>dlt a.1 b.1) (fun i=>⟨kd.getD i d0,zo5 h0 hs i⟩):=by
 have hk':∀ (i:Nat) v,vs[i]? = some v->∃ b ds as,v = .ref b/\kd.getD i d0 = .tuple ds /\ .tuple ds ∈ kd/\Reads s.heap (.ref b) (.tuple ds) as:=fun i v e=>by
  have hi:i<kd.length:=by rw [hl];exact (List.getElem?_eq_some_iff.mp e).1
  obtain ⟨b,ds,as,e1,e2,r⟩:=hk i v kd[i] e (List.getElem?_eq_getElem hi)
  refine ⟨b,ds,as,e1,?_,?_,by rw [<- e2];exact r⟩
  ·rw [List.getD_eq_getElem?_getD,List.getElem?_eq_getElem hi];exact e2
  ·rw [<- e2];exact List.getElem_mem hi
 refine ⟨zw4 σ,fun h2=>?_⟩
 obtain ⟨kk,c,q⟩:=zym (M:=model prog w) (A:=A) (σ:=σ) (s:=s) (vs:=vs) (fun v hv=>by
  obtain ⟨i,hi⟩:=List.mem_iff_getElem?.mp hv
  obtain ⟨b,ds,as,e1,_,e3,r⟩:=hk' i v hi
  exact ⟨b,ds,as,e1,r,hs _ e3⟩) h2
 refine ⟨kk,q,fun i j x p y q' E Q hi hj h=>?_⟩
 obtain ⟨b,ds,as,rfl,g1,m1,r1⟩:=hk' i x (zl0 rfl hi).1
 obtain ⟨b2,ds2,as2,rfl,g2,m2,r2⟩:=hk' j y (zl0 rfl hj).1
 dsimp only at h
 rw [g1,g2] at h
 have de1:=de _ m1
 rw [PyData.depth] at de1
 have hp:=(both σ).2 ds ds2 (hs _ m1) (hs _ m2) (zaq (la _ m1)) (zaq (la _ m2))
 have one:∀ b':Bool,wpAny (model prog w) A (oneLt' b' (.ref b) (.ref b2)) Q E s:=fun b'=>zej (zaq (la _ m1)) (zaq (la _ m2)) (fun p z=>(hp p z).1) prog w A E s _ _ as as2 b' Q r1 r2 (by rw [PyData.depth];lia) h
 have lex:∀ b':Bool,wpAny (model prog w) A (keyLt' (tuples' b') (.ref b) (.ref b2)) Q E s:=fun b'=>by
  cases r1 with
  | tuple k1 k2 k3 k4 =>
    cases r2 with
    | tuple l1 l2 l3 l4 =>
      refine kat_lt k1 k3 l1 l3 (zl6 _ _ ds ds2 _ _ 0 k4 l4 (zaq (la _ m1)) (zaq (la _ m2)) (fun p z=>(hp p z).2) (by lia) ?_ h)
      have z1:=SeqAt.ReadsAll.length _ _ _ k4
      have z2:=SeqAt.ReadsAll.length _ _ _ l4
      simp at z1 z2
      rw [z1,z2]
 rcases c with rfl | rfl | rfl | rfl
 ·exact lex true
 ·exact lex false
 ·exact one false
 ·exact one true
end
end HK
namespace HK
open PySem PySem.Spec PyProof.Rows PySem.SetTable SX TB
noncomputable abbrev zeh (h h':Heap):Prop:=∀ b o xs n,h.get? b=some o->o.data = .seq xs n->h'.get? b=some o
theorem zfs {h h':Heap} (F:PyData->Prop) (hF:∀ d,F d->∀ v as,Reads h v d as->Reads h' v d as):∀ {vs:List Value} {ds:List PyData} {as:List Addr},(∀ d ∈ ds,F d)->ReadsAll h vs ds as->ReadsAll h' vs ds as
 | [],_,_,hd,r=>by cases r;exact .nil
 | v::vs,_,_,hd,r=>by
   cases r with
   | cons r1 r2=>exact .cons (hF _ (hd _ (by simp)) _ _ r1) (zfs F hF (fun d z=>hd d (List.mem_cons_of_mem _ z)) r2)
theorem zic {h h':Heap} (K:zeh h h'):∀ (n:Nat) (d:PyData),d.depth<=n->hk d=true->∀ v as,Reads h v d as->Reads h' v d as:=by
 intro n
 induction n with
 | zero =>
   intro d hd hk' v as r
   cases r with
   | int i t=>exact .int i t
   | str x t=>exact .str x t
   | tuple _ _ _ _=>simp [PyData.depth] at hd
   | _=>simp [hk] at hk'
 | succ n ih =>
   intro d hd hk' v as r
   cases r with
   | int i t=>exact .int i t
   | str x t=>exact .str x t
   | @tuple a o vs c ds as ho hc hdt hr =>
     have hds:hks ds=true:=by simpa [hk] using hk'
     rw [PyData.depth] at hd
     exact .tuple (K a o vs c ho hdt) hc hdt (zfs (fun d=>d ∈ ds) (fun d z v as r=>ih d (by have:=zdd z;lia) (zd2 hds d z) v as r) (fun d z=>z) hr)
   | _=>simp [hk] at hk'
structure TupK (k:PyData):Prop where
 tu:∃ ds,k = .tuple ds
 ha:hk k=true
 la:k.canLay0=true
 de:k.depth<=8
 tx:bv k=true->k = .tuple []
theorem TupK.keep {h h':Heap} {k:PyData} {v:Value} {as:List Addr} (hk':TupK k) (K:zeh h h') (r:Reads h v k as):Reads h' v k as:=zic K 8 k hk'.de hk'.ha v as r
theorem zs1 {h:Heap} {k:PyData} {b:Addr} {as:List Addr} (hk':TupK k) (r:Reads h (.ref b) k as):∃ o xs n,h.get? b=some o/\o.data = .seq xs n:=by
 obtain ⟨ds,e⟩:=hk'.tu
 subst e
 cases r with
 | tuple h1 h2 h3 h4=>exact ⟨_,_,_,h1,h3⟩
structure Kx (w:World) (h0:Heap) (Sp:Addr->PyData->Prop) (h:Heap) (a:Addr) (es:Es) (ep:Nat) (t:SetTable) (ks:List PyData) (m:Nat):Prop extends Sx w h a es ep t where
 el:∀ (i:Nat) e,es[i]? = some e->∃ k b as,ks[i]? = some k/\e=(hD w k,.ref b)/\b ≠ a/\Reads h0 (.ref b) k as/\Sp b k
 len:ks.length=es.size
 kt:∀ k ∈ ks,TupK k
 nd:ks.Nodup
 ok:TOk t (ks.map (hD w)) m
 nf:t.tooFull=false
 pn:t.plain=true->∀ k ∈ ks,bv k=true
section
variable {P : Program} {w : World} {A : Around} {E : Value → Shared → Prop} {s : Shared} {S : Addr} {es : Es} {ep : Nat} {t : SetTable} {ks : List PyData} {m : Nat} {h0 : Heap} {Sp : Addr → PyData → Prop}
theorem zyf {k:PyData} {b:Addr} {as:List Addr} (hk':TupK k) (r:Reads s.heap (.ref b) k as) {Q:Bool->Shared->Prop}:∀ (ys:List Value),(∀ y ∈ ys,∃ k' b' as',y = .ref b'/\TupK k'/\Reads s.heap (.ref b') k' as')->Q false s->wpAny (model P w) A (searchCouldBeSeen (.ref b) ys) Q E s:=by
 intro ys hy h
 unfold searchCouldBeSeen
 refine wpAny_bind ?_
 refine wpAny_forIn_list _ (fun rest r s'=>r.1=none/\s'=s/\∀ y ∈ rest,∃ k' b' as',y = .ref b'/\TupK k'/\Reads s.heap (.ref b') k' as') _ ?_ ?_ _ _ ⟨rfl,rfl,hy⟩
 ·rintro y rest r' s' ⟨hr',rfl,hall⟩
  obtain ⟨k',b',as',rfl,hk2,r2⟩:=hall y (by simp)
  have nx:∀ y ∈ rest,∃ k' b' as',y = .ref b'/\TupK k'/\Reads s'.heap (.ref b') k' as':=fun y z=>hall y (List.mem_cons_of_mem _ z)
  dsimp only
  by_cases hv:((b == b') || (carriedByValue (.ref b) && carriedByValue (.ref b')))=true
  ·refine wp_t hv ?_
   exact wpAny_pure ⟨rfl,rfl,nx⟩
  ·refine wp_f hv ?_
   refine wpAny_bind (zeu 8 k hk'.de hk'.ha _ _ _ _ _ _ r ?_)
   refine wp_f (by decide) ?_
   refine wpAny_bind (zeu 8 k' hk2.de hk2.ha _ _ _ _ _ _ r2 ?_)
   refine wp_f (by decide) ?_
   refine wpAny_bind (zhj 8 k hk'.de hk'.ha _ _ _ _ _ _ r ?_)
   refine wp_f (by decide) ?_
   refine wpAny_bind (zhj 8 k' hk2.de hk2.ha _ _ _ _ _ _ r2 ?_)
   refine wp_f (by decide) ?_
   exact wpAny_pure ⟨rfl,rfl,nx⟩
 ·rintro ⟨r1,r2⟩ s' ⟨hr',rfl,_⟩
  simp only at hr'
  subst hr'
  exact wpAny_pure h
theorem zpl {k k':PyData} (h:TupK k) (h':TupK k'):PyData.eqv k k'=true↔k=k':=L3.eqv_solid k k' (zcl k h.ha) (zcl k' h'.ha)
theorem Kx.odd (K:Kx w h0 Sp s.heap S es ep t ks m):t.gaveWay=false:=by
 unfold SetTable.gaveWay
 have h1:=K.ok.mm
 have h2:=K.ok.m3
 have:2 ^ m=8 * 2 ^ (m - 3):=by
  rw [show (8:Nat)=2 ^ 3 from rfl,<- Nat.pow_add]
  congr 1
  lia
 simp
 lia
theorem Kx.search (K:Kx w h0 Sp s.heap S es ep t ks m) (X:zeh h0 s.heap) {k:PyData} {b:Addr} {as:List Addr} (hk':TupK k) (r:Reads s.heap (.ref b) k as) (hu:A.units+8<cLine) {N:Nat} (h0:t.slot (sq t.mask (hD w k) N).j = .empty) (hb:∀ k',k'<N->t.slot (sq t.mask (hD w k) k').j ≠ .empty) (hN:N<10 * turns t.mask) {Q:SetFound->Shared->Prop}
 (y:k ∈ ks->Q (.there none) s) (n:(∀ k'<N,∀ i,t.slot (sq t.mask (hD w k) k').j = .live i->ks[i]? ≠ some k)->Q (.free (sq t.mask (hD w k) N).j false) s) :
 ∀ (fuel c:Nat) (st:Option Probe),N<c+fuel->c<=N->st.getD (t.probeStart (hD w k))=sq t.mask (hD w k) c->(∀ k'<c,∀ i,t.slot (sq t.mask (hD w k) k').j = .live i->ks[i]? ≠ some k) ->
 wpAny (model P w) A (setSearchFrom S (.ref b) (hD w k) true fuel st) Q E s
 | 0,c,st,h1,h2,_,_=>absurd h1 (by lia)
 | fuel+1,c,st,h1,h2,h3,h4=>by
   unfold setSearchFrom
   refine wpAny_bind (K.state ?_)
   refine wp_f (by rw [K.odd];exact Bool.false_ne_true) ?_
   rw [h3]
   have hashAt:∀ (i:Nat) k',ks[i]? = some k'->((es[i]?.map (·.1)).getD 0:Int)=hD w k':=fun i k' hi=>by
    have hil:i<es.size:=by rw [<- K.len];exact (List.getElem?_eq_some_iff.mp hi).1
    obtain ⟨k2,b2,as2,e1,e2,_,_⟩:=K.el i _ (Array.getElem?_eq_getElem hil)
    rw [Array.getElem?_eq_getElem hil,e2]
    rw [hi] at e1
    cases e1
    rfl
   have g:=zxa K.ok.dm (fun i=>((es[i]?.map (·.1)).getD 0:Int)) (hD w k) N h0 hb (10 * turns t.mask) c (by lia) h2
   rcases g with ⟨j,i,a1,a2,a3,a4,a5,a6⟩ | ⟨a1,a2⟩
   ·have gp:t.probe (fun i=>((es[i]?.map (·.1)).getD 0:Int)) (hD w k) (sq t.mask (hD w k) c)=some (.candidate (sq t.mask (hD w k) j).j i (sq t.mask (hD w k) (j+1))):=a6
    have il:=(zj2 a3).1
    rw [K.ok.sz,List.length_map,K.len] at il
    obtain ⟨k2,b2,as2,e1,e2,nb,r2,_⟩:=K.el i _ (Array.getElem?_eq_getElem il)
    have hk2:=K.kt k2 (List.mem_of_getElem? e1)
    replace r2:=hk2.keep X r2
    dsimp only
    split
    ·rename_i met he
     have hmet:=Option.some.inj (gp.symm.trans he)
     subst hmet
     dsimp only
     have rest:wpAny (model P w) A (do
      let equal <- holding [Value.ref b2] (eqBool (.ref b2) (.ref b))
      let __x <- setState S
      match __x with
       | (es',_,t') =>
         if (true && equal)=true then pure (SetFound.there none)
         else
          match t'.sameMemory t.moves t.mask with
          | some same =>
            match if same=true then t'.slot (sq t.mask (hD w k) j).j else Slot.empty with
            | Slot.live i' =>
              match es'[i']? with
              | some (_,y')=>do
                let __do_lift <- isSame y' (.ref b2)
                let still <- pure (if __do_lift=true then some i' else none)
                match still with
                 | none=>do
                   rule "set.search.anew"
                   setSearchFrom S (Value.ref b) (hD w k) true fuel none
                 | some i' =>
                   if equal=true then pure (SetFound.there (some i'))
                   else setSearchFrom S (Value.ref b) (hD w k) true fuel (some (sq t.mask (hD w k) (j+1)))
              | none=>do
                let still <- pure none
                match still with
                 | none=>do
                   rule "set.search.anew"
                   setSearchFrom S (Value.ref b) (hD w k) true fuel none
                 | some i' =>
                   if equal=true then pure (SetFound.there (some i'))
                   else setSearchFrom S (Value.ref b) (hD w k) true fuel (some (sq t.mask (hD w k) (j+1)))
            | x=>do
              let still <- pure none
              match still with
               | none=>do
                 rule "set.search.anew"
                 setSearchFrom S (Value.ref b) (hD w k) true fuel none
               | some i' =>
                 if equal=true then pure (SetFound.there (some i'))
                 else setSearchFrom S (Value.ref b) (hD w k) true fuel (some (sq t.mask (hD w k) (j+1)))
          | x=>unsupported "set.changed-during-lookup:is-the-new-block-at-the-old-address") Q E s:=by
      refine wpAny_bind (wpAny_holding (SeqAt.eqBoolOverData _ _ _ _ _ _ _ k2 k _ _ _ r2 r hk2.la hk'.la (by have:=hk'.de;lia) ?_))
      refine wpAny_bind (K.state ?_)
      dsimp only
      by_cases ek:k2=k
      ·rw [(zpl hk2 hk').mpr ek]
       refine wp_t rfl (wpAny_pure (y ?_))
       rw [<- ek]
       exact List.mem_of_getElem? e1
      ·have en:PyData.eqv k2 k=false:=by
        cases c:PyData.eqv k2 k with
        | false=>rfl
        | true=>exact absurd ((zpl hk2 hk').mp c) ek
       rw [en]
       refine wp_f (by decide) ?_
       have sm:t.sameMemory t.moves t.mask=some true:=by
        unfold SetTable.sameMemory
        rw [if_pos (by simp)]
       rw [sm]
       dsimp only
       rw [if_pos rfl,a3]
       dsimp only
       rw [Array.getElem?_eq_getElem il,e2]
       dsimp only
       refine wpAny_bind (wpAny_isSame_ref_self ?_)
       refine wpAny_bind (wpAny_pure ?_)
       rw [if_pos rfl]
       dsimp only
       refine wp_f (by decide) ?_
       refine Kx.search K X hk' r hu h0 hb hN y n fuel (j+1) _ (by lia) (by lia) rfl fun k' hk3 i' hl=>?_
       by_cases z1:k'<c
       ·exact h4 k' z1 i' hl
       ·by_cases z2:k'=j
        ·subst z2
         rw [a3] at hl
         cases hl
         rw [e1]
         exact fun z=>ek (Option.some.inj z)
        ·obtain ⟨i2,q1,q2⟩:=a5 k' (by lia) (by lia)
         rw [hl] at q1
         cases q1
         exact fun z=>q2 (hashAt i' k z)
     have ge:es[i]? = some (hD w k2,Value.ref b2):=by rw [Array.getElem?_eq_getElem il,e2]
     rw [ge]
     split
     ·refine wpAny_bind (zyf hk' r _ (fun y' hy=>?_) ?_)
      ·obtain ⟨e,he',rfl⟩:=List.mem_map.mp hy
       have:=(Array.mem_toList_iff.mp he')
       obtain ⟨i3,hi3⟩:=Array.mem_iff_getElem?.mp (Array.mem_filter.mp this).1
       obtain ⟨k3,b3,as3,q1,q2,_,q3,_⟩:=K.el i3 e hi3
       exact ⟨k3,b3,as3,by rw [q2],K.kt k3 (List.mem_of_getElem? q1),(K.kt k3 (List.mem_of_getElem? q1)).keep X q3⟩
      ·refine wp_f (by decide) ?_
       exact rest
     ·exact rest
    ·rename_i he
     exact (he _ gp).elim
   ·have gp:t.probe (fun i=>((es[i]?.map (·.1)).getD 0:Int)) (hD w k) (sq t.mask (hD w k) c)=some (.empty (sq t.mask (hD w k) N).j none):=a2
    dsimp only
    split
    ·rename_i met he
     have hmet:=Option.some.inj (gp.symm.trans he)
     subst hmet
     dsimp only
     refine wpAny_pure (n fun k' hk3 i' hl=>?_)
     by_cases z1:k'<c
     ·exact h4 k' z1 i' hl
     ·obtain ⟨i2,q1,q2⟩:=a1 k' (by lia) hk3
      rw [hl] at q1
      cases q1
      exact fun z=>q2 (hashAt i' k z)
    ·rename_i he
     exact (he _ gp).elim
end
end HK
namespace HK
open PySem PySem.Spec PyProof.Rows PySem.SetTable SX TB
section
variable {P : Program} {w : World} {A : Around} {E : Value → Shared → Prop} {s : Shared} {S : Addr} {es : Es} {ep : Nat} {t : SetTable} {ks : List PyData} {m : Nat} {h0 : Heap} {Sp : Addr → PyData → Prop}
theorem Kx.keep {h h':Heap} (K:Kx w h0 Sp h S es ep t ks m) (kS:∀ o,h.get? S=some o->h'.get? S=some o):Kx w h0 Sp h' S es ep t ks m :=
 ⟨K.toSx.keep kS,K.el,K.len,K.kt,K.nd,K.ok,K.nf,K.pn⟩
theorem zqu {h h':Heap} {o:Obj} (ho:h.get? S=some o) (hd:o.data = .set es ep t) (sb:Heap.SameBut S h h'):zeh h h':=fun b o' xs n e d=>by
 have nb:b ≠ S:=fun z=>by
  subst z
  rw [ho] at e
  cases e
  rw [hd] at d
  cases d
 exact (sb.2 b nb).trans e
theorem zt1 {ks:List PyData} (kt:∀ k ∈ ks,TupK k) (nd:ks.Nodup) {t:SetTable} (pn:t.plain=true->∀ k ∈ ks,bv k=true) (hl:1<ks.length):t.plain=false:=by
 cases c:t.plain with
 | false=>rfl
 | true =>
   exfalso
   have h0:=List.getElem_mem (l:=ks) (n:=0) (by lia)
   have h1:=List.getElem_mem (l:=ks) (n:=1) hl
   have e0:=(kt _ h0).tx (pn c _ h0)
   have e1:=(kt _ h1).tx (pn c _ h1)
   have:=(List.getElem_inj (i:=0) (j:=1) (h₀:=by lia) (h₁:=hl) nd).mp (e0.trans e1.symm)
   lia
theorem zrn (K:Sx w s.heap S es ep t) {es':Es} {t':SetTable} {ks':List PyData} {m':Nat} (el:∀ (i:Nat) e,es'[i]? = some e->∃ k b as,ks'[i]? = some k/\e=(hD w k,.ref b)/\b ≠ S/\Reads h0 (.ref b) k as/\Sp b k) (len:ks'.length=es'.size) (kt:∀ k ∈ ks',TupK k) (nd:ks'.Nodup) (ok:TOk t' (ks'.map (hD w)) m') (pn:t'.plain=true->∀ k ∈ ks',bv k=true) (led:t'.led = !byT w) (lt:es'.size<scanBound)
 {Q:Unit->Shared->Prop} (h:∀ h',Heap.SameBut S s.heap h'->Sx w h' S es' (ep+1) t'->(t'.tooFull=false->Kx w h0 Sp h' S es' (ep+1) t' ks' m')->Q () { s with heap:=h' }):wpAny (model P w) A (storeSet S es' t') Q E s:=by
 obtain ⟨o,ho,hx,hd⟩:=K.at_
 have sb:Heap.SameBut S s.heap (s.heap.update S (Obj.putSet es' t')) := .update ..
 have fit:t'.fits es'.size=true:=by
  have h1:=ok.sz
  have h2:=ok.rm
  rw [List.length_map,len] at h1
  simp [SetTable.fits,SetTable.fill,ok.dm,h1]
  lia
 have sx:Sx w (s.heap.update S (Obj.putSet es' t')) S es' (ep+1) t':=by
  refine ⟨⟨{ o with data := .set es' (ep+1) t' },?_,hx,rfl⟩,lt,fit,led,fun z=>zt1 kt nd pn (by lia)⟩
  have:=Heap.get?_update_self (Obj.putSet es' t') ho (by rw [putSet_of es' t' hd];rfl)
  rw [putSet_of es' t' hd] at this
  exact this
 refine wpAny_storeSet_of ho hd (h _ sb sx fun nf=>?_) (fits_of_scanBound lt)
 exact ⟨sx,el,len,kt,nd,ok,nf,pn⟩
theorem zzp {α β:Type} (f:α->β) (p:Nat) (x:α) (l:List α):(ins p x l).map f=ins p (f x) (l.map f):=by
 unfold ins
 rw [List.map_append,List.map_cons,List.map_take,List.map_drop]
theorem zug {α:Type} (p:Nat) (x:α) (l:List α):(ins p x l).Perm (x::l):=by
 unfold ins
 refine List.perm_middle.trans (.cons x ?_)
 rw [List.take_append_drop]
theorem Kx.add (K:Kx w h0 Sp s.heap S es ep t ks m) (X:zeh h0 s.heap) {k:PyData} {b:Addr} {as:List Addr} (hk':TupK k) (r0:Reads h0 (.ref b) k as) (sp:Sp b k) (hu:A.units+8<cLine) (hz:es.size<999) {Q:Bool->Shared->Prop}
 (h:∀ c h' es' ep' t' ks' m',Heap.SameBut S s.heap h'->Kx w h0 Sp h' S es' ep' t' ks' m'->(∀ x,x ∈ ks'↔x ∈ ks\/x=k)->es'.size<=es.size+1->Q c { s with heap:=h' }) :
 wpAny (model P w) A (setAddHashed S (.ref b) (hD w k)) Q E s:=by
 have r:=hk'.keep X r0
 obtain ⟨N,n1,n2,n3⟩:=K.ok.free (hD w k)
 have nb:b ≠ S:=fun z=>by
  obtain ⟨o,xs,n,h1,h2⟩:=zs1 hk' r
  obtain ⟨o',h3,_,h4⟩:=K.at_
  rw [z,h3] at h1
  cases h1
  rw [h4] at h2
  cases h2
 unfold setAddHashed setAddHashedIn
 refine wpAny_holding (wpAny_bind (K.state ?_))
 dsimp only
 rw [if_neg (by simp [byScan,Value.scannable])]
 have mk1:=K.ok.mm
 have mk2:2 ^ m<=2 ^ 13:=Nat.pow_le_pow_right (by decide) K.ok.mb
 refine wpAny_bind ?_
 unfold setSearch
 refine K.search X hk' r hu n2 n3 n1 (fun hm=>?_) (fun hn=>?_) 100000 0 none (by unfold turns at n1;lia) (Nat.zero_le _) rfl (fun k' z=>absurd z (Nat.not_lt_zero _))
 ·exact wpAny_pure (h false s.heap es ep t ks m (.refl ..) K (fun x=>⟨.inl,fun z=>z.elim id fun z=>z ▸ hm⟩) (Nat.le_succ _))
 ·have km:k ∉ ks:=fun hm=>by
   obtain ⟨i,hi⟩:=List.mem_iff_getElem?.mp hm
   obtain ⟨n,q1,q2⟩:=K.ok.rc i (hD w k) (by rw [List.getElem?_map,hi];rfl)
   have il:i<t.place.size:=by
    rw [K.ok.sz,List.length_map]
    exact (List.getElem?_eq_some_iff.mp hi).1
   have sl:=zkc K.ok.inc il
   rw [<- q1] at sl
   by_cases c:n<N
   ·exact hn n c i sl hi
   ·by_cases c2:N<n
    ·exact q2 N c2 n2
    ·obtain rfl:n=N:=by lia
     rw [n2] at sl
     cases sl
  refine wpAny_bind (K.state ?_)
  have psz:t.place.size=es.size:=by rw [K.ok.sz,List.length_map,K.len]
  have tf:t.place.size * 5<t.mask * 3:=by
   have:=K.nf
   simp [SetTable.tooFull,SetTable.fill,K.ok.dm] at this
   lia
  have m8:2 ^ 3<=2 ^ m:=Nat.pow_le_pow_right (by decide) K.ok.m3
  have hmask:t.place.size+1<=t.mask:=by lia
  have put:=fun b=>K.ok.put (h:=hD w k) (N:=N) hmask n2 n3 (zwv _ N).1 b
  generalize hj:(sq t.mask (hD w k) N).j=j at *
  generalize hp:below t.place j=p at *
  have pls:(t.put j).1.led=t.led/\(t.put j).1.plain=t.plain:=⟨rfl,rfl⟩
  have pp:(t.put j).2=p:=(put true).2
  have hpl:p<=es.size:=by
   rw [<- hp,<- psz]
   exact (zhz K.ok.inc j).1
  have el1:∀ (i:Nat) e,(insertAt es p (hD w k,Value.ref b))[i]? = some e->∃ k' b' as',(ins p k ks)[i]? = some k'/\e=(hD w k',.ref b')/\b' ≠ S/\Reads h0 (.ref b') k' as'/\Sp b' k':=fun i e he=>by
   rw [<- Array.getElem?_toList,insA,zgr (by simpa using hpl)] at he
   rw [zgr (by rw [K.len];exact hpl)]
   split at he
   ·rename_i c
    rw [if_pos c]
    exact K.el i e (by rw [<- Array.getElem?_toList];exact he)
   ·rename_i c
    rw [if_neg c]
    split at he
    ·rename_i c2
     rw [if_pos c2]
     cases he
     exact ⟨k,b,as,rfl,rfl,nb,r0,sp⟩
    ·rename_i c2
     rw [if_neg c2]
     exact K.el (i - 1) e (by rw [<- Array.getElem?_toList];exact he)
  have pk:=zug p k ks
  have len1:(ins p k ks).length=(insertAt es p (hD w k,Value.ref b)).size:=by
   rw [zez,<- Array.length_toList,insA,zez,K.len,Array.length_toList]
  have kt1:∀ x ∈ ins p k ks,TupK x:=fun x hx=>by
   rcases List.mem_cons.mp (pk.mem_iff.mp hx) with rfl | hx
   ·exact hk'
   ·exact K.kt x hx
  have nd1:(ins p k ks).Nodup:=pk.nodup_iff.mpr (List.nodup_cons.mpr ⟨km,K.nd⟩)
  have mem1:∀ x,x ∈ ins p k ks↔x ∈ ks\/x=k:=fun x=>by rw [pk.mem_iff,List.mem_cons,or_comm]
  have sz1:(insertAt es p (hD w k,Value.ref b)).size=es.size+1:=by rw [<- len1,zez,K.len]
  generalize hes1:insertAt es p (hD w k,Value.ref b)=es1 at *
  generalize hks1:ins p k ks=ks1 at *
  have fin:∀ b':Bool,(b'=true->∀ x ∈ ks1,bv x=true)->wpAny (model P w) A (do
   storeSet S es1 { (t.put j).1 with plain:=b' }
   if (!false && ({ (t.put j).1 with plain:=b' }:SetTable).tooFull)=true then do
       setRelay S (SetTable.grown (es.size+1))
       pure true
    else pure true) Q E s:=fun b' hb'=>by
   have ok1:=(put b').1
   rw [<- zzp,hks1] at ok1
   refine wpAny_bind (zrn K.toSx el1 len1 kt1 nd1 ok1 hb' (pls.1.trans K.led) (by rw [sz1];unfold scanBound;lia) fun h1 sb1 sx1 mk=>?_)
   cases hw:({ (t.put j).1 with plain:=b' }:SetTable).tooFull with
   | false =>
     refine wp_f (by decide) (wpAny_pure (h true h1 _ _ _ _ _ sb1 (mk hw) mem1 (Nat.le_of_eq sz1)))
   | true =>
     refine wp_t rfl ?_
     generalize ht1:({ (t.put j).1 with plain:=b' }:SetTable)=t1 at *
     obtain ⟨t2,order,m2,z1,z2,z3,z4,z5,z6,z7⟩:=zt5 t1 es1 (by lia)
     obtain ⟨m',y1,y2,y3,y4⟩:=above (n:=es1.size * 4) (by lia)
     have gr:SetTable.grown (es.size+1)=es1.size * 4:=by
      unfold SetTable.grown
      rw [if_neg (by lia),sz1]
     rw [gr]
     unfold setRelay
     refine wpAny_bind (wpAny_bind (Sx.state (s:={ s with heap:=h1 }) sx1 ?_))
     refine wp_f (by
      rw [y2,sizeLine_eq]
      have:2 ^ m'<=8000:=by
       rcases y4 with rfl | y4
       ·decide
       ·lia
      lia) ?_
     dsimp only
     rw [z1]
     have z3':(order.filterMap (es1[·]?)).size=es1.size:=by
      rw [<- Array.length_toList,z3.length_eq,Array.length_toList]
     refine wpAny_bind (m:=(do
      if ((order.filterMap (es1[·]?)).size != es1.size)=true then unsupported "internal:set-table-lost-an-element"
      pure (order.filterMap (es1[·]?),t2))) (wp_f (by simp [z3']) (wpAny_pure ?_))
     have isE:∀ i ∈ order.toList,(es1[i]?).isSome=true:=fun i hi=>by
      have:=List.mem_range.mp (z7.mem_iff.mp hi)
      simp [this]
     have isK:∀ i ∈ order.toList,(ks1[i]?).isSome=true:=fun i hi=>by
      have:=List.mem_range.mp (z7.mem_iff.mp hi)
      simp
      lia
     have e2:(order.filterMap (es1[·]?)).toList=order.toList.filterMap (es1[·]?):=by simp
     have p2:(order.toList.filterMap (ks1[·]?)).Perm ks1:=by
      have:=z7.filterMap (fun i=>ks1[i]?)
      rw [<- len1] at this
      rw [List.filterMap_getElem?_range_length] at this
      exact this
     obtain ⟨o1,ho1,hx1,hd1⟩:=K.at_
     have ke:zeh s.heap h1:=zqu ho1 hd1 sb1
     have el2:∀ (i:Nat) e,(order.filterMap (es1[·]?))[i]? = some e->∃ k' b' as',(order.toList.filterMap (ks1[·]?))[i]? = some k'/\e=(hD w k',.ref b')/\b' ≠ S/\Reads h0 (.ref b') k' as'/\Sp b' k':=fun i e he=>by
      rw [<- Array.getElem?_toList,e2,ze3 isE] at he
      rw [ze3 isK]
      cases eq:order.toList[i]? with
      | none=>rw [eq] at he;cases he
      | some i' =>
        rw [eq] at he
        obtain ⟨k',b2,as',q1,q2,q3,q4⟩:=el1 i' e he
        exact ⟨k',b2,as',q1,q2,q3,q4⟩
     have hm2:(order.filterMap (es1[·]?)).toList.map (·.1)=(order.toList.filterMap (ks1[·]?)).map (hD w):=by
      refine List.ext_getElem? fun i=>?_
      rw [List.getElem?_map,List.getElem?_map,e2,ze3 isE,ze3 isK]
      cases eq:order.toList[i]? with
      | none=>rfl
      | some i' =>
        have hi':i'<es1.size:=List.mem_range.mp (z7.mem_iff.mp (List.mem_of_getElem? eq))
        obtain ⟨k',b2,as',q1,q2,q3,q4⟩:=el1 i' _ (Array.getElem?_eq_getElem hi')
        show Option.map _ es1[i']? = Option.map _ ks1[i']?
        rw [Array.getElem?_eq_getElem hi',q2,q1]
        rfl
     rw [hm2] at z2
     refine zrn (s:={ s with heap:=h1 }) sx1 el2 (by rw [p2.length_eq,len1,z3']) (fun x hx=>kt1 x (p2.mem_iff.mp hx)) (p2.nodup_iff.mpr nd1) z2 (fun pl x hx=>hb' (by rw [z5] at pl;rw [<- ht1] at pl;exact pl) x (p2.mem_iff.mp hx)) (by rw [z4,<- ht1];exact pls.1.trans K.led) (by rw [z3',sz1];unfold scanBound;lia) fun h2 sb2 sx2 mk2=>?_
     exact wpAny_pure (h true h2 _ _ _ _ _ (sb1.trans sb2) (mk2 z6) (fun x=>by rw [p2.mem_iff];exact mem1 x) (by rw [z3',sz1];exact Nat.le_refl _))
  dsimp only
  rw [pp,hes1]
  split
  ·rename_i hpt
   refine wpAny_bind (zr6 8 k hk'.de hk'.ha _ _ _ _ _ _ r ?_)
   cases hbv:bv k with
   | true =>
     refine fin t.plain fun hp' x hx=>?_
     rcases (mem1 x).mp hx with hx | rfl
     ·exact K.pn hp' x hx
     ·exact hbv
   | false=>exact fin false fun z=>by cases z
  ·rename_i hpt
   refine wpAny_bind (wpAny_pure ?_)
   exact fin t.plain fun hp'=>absurd hp' hpt
end
end HK
namespace HK
open PySem PySem.Spec PyProof.Rows PySem.SetTable SX TB
section
variable {P : Program} {w : World} {A : Around} {R : Result → Shared → Prop} {I : Addr} {fp wr : List Addr} {G : Array GenState → Array GenState → Prop} {n : Nat} {Pv : Nat → Value → Prop} {St : Nat → Shared → Prop} {Sp : Addr → PyData → Prop}
theorem zz2 (W:WalksS P w A.in1 I fp wr G n Pv St) (S:Addr) (hS:S ∉ fp) (h0:Heap) (hn:∀ b o,h0.get? b=some o->b ∉ S::wr) (val:Nat->PyData) (hv:∀ i,i<n->TupK (val i)) (hval:∀ i v,i<n->Pv i v->∃ b as,v = .ref b/\Reads h0 (.ref b) (val i) as/\Sp b (val i)) (hu:A.units+9<cLine) (hb:n<999) :
 ∀ (m i:Nat) (s:Shared) (es:Es) (ep:Nat) (t:SetTable) (ks:List PyData) (mm:Nat),n - i=m->i<=n->St i s->Ext h0 s.heap->Kx w h0 Sp s.heap S es ep t ks mm->(∀ x,x ∈ ks↔∃ j,j<i/\val j=x)->es.size<=i ->
   (∀ s' es' ep' t' ks' mm',Moved (S::wr) G s s'->Kx w h0 Sp s'.heap S es' ep' t' ks' mm'->(∀ x,x ∈ ks'↔∃ j,j<n/\val j=x)->R (.ok (.ret .none)) s') ->
   codeAny (model P w) A (.builtin "set.update.loop" ⟨[.ref S,.ref I],[]⟩) R s:=by
 have nw:S ∉ wr:=fun z=>hS (W.sub _ z)
 have up:∀ b ∈ wr,b ∈ S::wr:=fun b z=>List.mem_cons_of_mem _ z
 intro m
 induction m with
 | zero =>
   intro i s es ep t ks mm hm hi st X T hk _ k
   obtain rfl:i=n:=by lia
   refine codeAny_builtin F.entry_set_update_loop ?_
   rw [Around.under_plainId F.plain_set_update_loop _]
   refine wpAny_bind (W.done s _ _ st fun s' mv=>wpAny_pure ?_)
   exact k s' es ep t ks mm (mv.mono up) (T.keep fun o e=>mv.heap S o nw e) hk
 | succ m ih =>
   intro i s es ep t ks mm hm hi st X T hk hz k
   have hlt:i<n:=by lia
   refine codeAny_builtin F.entry_set_update_loop ?_
   rw [Around.under_plainId F.plain_set_update_loop _]
   refine wpAny_bind (W.item i s _ _ hlt st fun v s' pv st' mv=>?_)
   obtain ⟨b,as,rfl,hr,hsp⟩:=hval i v hlt pv
   have T1:=T.keep fun o e=>mv.heap S o nw e
   have X1:Ext h0 s'.heap:=fun b o e=>mv.heap b o (fun z=>hn b o e (up b z)) (X b o e)
   have kp:zeh h0 s'.heap:=fun b o _ _ e _=>X1 b o e
   refine wpAny_bind (m:=holding [Value.ref b] (setAdd S (.ref b))) (wpAny_holding ?_)
   unfold setAdd
   have hvi:=hv i hlt
   have hde:=hvi.de
   refine wpAny_holding (wpAny_bind (ziz 8 (val i) hvi.de hvi.ha _ _ _ _ _ _ (by show A.units+1+(val i).depth<cLine;lia) (hvi.keep kp hr) ?_))
   refine Kx.add (s:={ s' with toks:=s'.toks+dr (val i) }) T1 kp hvi hr hsp (by show A.units+1+8<cLine;lia) (by lia) fun c h' es' ep' t' ks' m' sb T2 hk' hz'=>?_
   have X2:Ext h0 h':=fun b o e=>(sb.2 b (fun z=>hn b o e (z ▸ List.mem_cons_self))).trans (X1 b o e)
   refine wpAny_pure ⟨plainId_quiet F.plain_set_update_loop _,ih (i+1) _ es' ep' t' ks' m' (by lia) hlt (W.frame _ s' _ _ st' (Nat.le_add_right _ _) fun b hb o e=>?_) X2 T2 (fun x=>?_) (by lia) fun s'' e2 p2 t2 k2 m2 mv2 T3 hk3=>?_⟩
   ·rw [sb.2 b (fun z:b=S=>hS (z ▸ hb))]
    exact e
   ·rw [hk',hk]
    constructor
    ·rintro (⟨j,h1,h2⟩ | rfl)
     ·exact ⟨j,by lia,h2⟩
     ·exact ⟨i,by lia,rfl⟩
    ·rintro ⟨j,h1,h2⟩
     by_cases hj:j=i
     ·subst hj
      exact .inr h2.symm
     ·exact .inl ⟨j,by lia,h2⟩
   ·refine k s'' e2 p2 t2 k2 m2 (.trans W.gtrans ((mv.mono up).then_heap (Nat.le_add_right _ _) fun b o hb e=>?_) mv2) T3 hk3
    rw [sb.2 b (fun z:b=S=>hb (z ▸ List.mem_cons_self))]
    exact e
end
section
variable {P : Program} {w : World} {A : Around} {E : Value → Shared → Prop} {s : Shared} {Sp : Addr → PyData → Prop}
theorem z3i {h0 h:Heap} {a:Addr} (e:h.get? a=some (eObj w)):Kx w h0 Sp h a #[] 0 (.fresh 0 0 (!byT w)) [] 3 :=
 ⟨⟨⟨_,e,⟨rfl,rfl,rfl⟩,rfl⟩,by decide,rfl,rfl,fun z=>absurd z (by decide)⟩,(fun i e z=>by simp at z),rfl,(fun k z=>(List.not_mem_nil z).elim),List.Pairwise.nil,
   ⟨rfl,by decide,by decide,rfl,rfl,fun i k _ z=>absurd z (Nat.not_lt_zero _),fun i z=>absurd z (Nat.not_lt_zero _),Nat.zero_le _,(fun i h z=>by simp at z)⟩,rfl,fun _ k z=>(List.not_mem_nil z).elim⟩
theorem zry {v:Value} {T:String} {n:Nat} {Pv:Nat->Value->Prop} {val:Nat->PyData} {Q:Value->Shared->Prop} (hh:A.handled=none) (hT:∀ s₁:Shared,Ext s.heap s₁.heap->s₁.TypeIs v T)
 (h1:isSubtype (.type T) (.type "set")=pure false) (h2:isSubtype (.type T) (.type "frozenset")=pure false) (h3:(Value.type T == Value.type "dict")=false) (src:Src P w s.heap v n Pv)
 (hv:∀ i,i<n->TupK (val i)) (hval:∀ i v,i<n->Pv i v->∃ b as,v = .ref b/\Reads s.heap (.ref b) (val i) as/\Sp b (val i)) (hu:A.units+64<cLine) (hb:n<999)
 (k:∀ h' tk es ep t ks m,Kx w s.heap Sp h' s.heap.objs.size es ep t ks m->(∀ x,x ∈ ks↔∃ j,j<n/\val j=x)->Ext s.heap h'->Q (.ref s.heap.objs.size) { s with heap:=h',toks:=tk }) :
 wpAny (model P w) A (call (.type "set") [v]) Q E s:=by
 obtain ⟨c,tl,hmro⟩:=F.called_set.mro
 have hmade:=F.called_set.made
 have hsub:=F.called_set.sub
 refine wpAny_call (codeAny_of_tree ?_)
 show wpAny _ _ (callAny (.type "set") _) _ _ _
 refine wpAny_pure ⟨Code.quiet_builtin _ (by decide +kernel),codeAny_builtin F.entry_type_call ?_⟩
 rw [Around.under_plain (weight_type_call_type "set" [v] []) rfl]
 have c1:=F.called_set.notType
 have c2:=F.called_set.canCreate
 have c3:=F.typeCall_set_1 v
 repeat (any_goals (first | assumption | wp_step))
 refine codeAny_mono (zpp v (E:=E) (Q:=fun r s₁=>r = .ref s.heap.objs.size/\s₁ = { s with heap:=s.heap.push (eObj w) }) ⟨rfl,rfl⟩) fun r s₁ hr=>?_
 cases r with
 | error e=>exact hr
 | ok fl =>
   cases fl with
   | ret obj =>
     obtain ⟨rfl,rfl⟩:=hr
     have eS:(s.heap.push (eObj w)).get? s.heap.objs.size=some (eObj w):=Heap.get?_push_size _ rfl
     have hS:Shared.TypeIs { s with heap:=s.heap.push (eObj w) } (.ref s.heap.objs.size) "set" := ⟨_,eS,rfl⟩
     have c4:=F.called_set.init.lookup
     have c5:=F.called_set.init.bind (.ref s.heap.objs.size)
     repeat (any_goals (first | assumption | wp_step))
     refine codeAny_mono (codeAny_call_builtin (R:=wants (fun r s₂=>r = .none/\∃ h' tk es ep t ks m,s₂ = { s with heap:=h',toks:=tk }/\Kx w s.heap Sp h' s.heap.objs.size es ep t ks m/\(∀ x,x ∈ ks↔∃ j,j<n/\val j=x)/\Ext s.heap h') E) F.called_set.init.plain F.entry_set_init (check_set_init_1 hS ?_)) fun r₂ s₂ hr₂=>?_
     ·have e0:Ext s.heap (s.heap.push (eObj w)):=fun b o e=>Heap.get?_push_of_some _ e
      have hTv:=hT { s with heap:=s.heap.push (eObj w) } e0
      unfold Builtin.«set.__init__» noKeywords Builtin.Frozenset.updateFrom
      generalize hPI:pyIter=PI
      wp_walk
      subst hPI
      have lt0:s.heap.objs.size<(s.heap.push (eObj w)).objs.size:=by rw [Heap.size_push];exact Nat.lt_succ_self _
      refine src _ _ _ _ (by simpa using hh) e0 fun I h' fp St W st ex fpb hI=>?_
      refine wpAny_bind (wpAny_runValue ?_)
      have nS:s.heap.objs.size ∉ fp:=fun z=>by
       rcases fpb _ z with y | y
       ·exact Nat.lt_irrefl _ y
       ·exact absurd lt0 (Nat.not_lt.mpr y)
      have hn:∀ b o,s.heap.get? b=some o->b ∉ s.heap.objs.size :: [I]:=fun b o e z=>by
       have hbl:=Heap.lt_size e
       rcases List.mem_cons.mp z with z | z
       ·exact Nat.ne_of_lt hbl z
       ·rw [List.mem_singleton.mp z] at hbl
        exact absurd hbl (Nat.not_lt.mpr (Nat.le_trans (Nat.le_of_lt lt0) hI))
      refine zz2 (W _ (by simpa using hh)).toS s.heap.objs.size nS s.heap hn val hv hval ?hu hb n 0 _ #[] 0 _ [] 3 rfl (Nat.zero_le _) st (fun b o e=>ex b o (e0 b o e)) (z3i (ex _ _ eS)) (fun x=>by simp) (Nat.le_refl _) fun s' es ep t ks m mv T hk=>?_
      case hu =>
       show A.units+1+1+9<cLine
       lia
      obtain ⟨h2,g2,d2,tk2,os2⟩:=s'
      obtain rfl:g2=s.gens:=mv.gens
      obtain rfl:d2=s.drawn:=mv.drawn
      obtain rfl:os2=s.os:=mv.os
      show wpAny _ _ _ _ _ _
      refine wpAny_pure (wpAny_pure ⟨rfl,h2,tk2,es,ep,t,ks,m,rfl,T,hk,fun b o e=>mv.heap b o (hn b o e) (ex b o (e0 b o e))⟩)
     ·cases r₂ with
      | error e=>exact hr₂
      | ok fl₂ =>
        cases fl₂ with
        | ret r =>
          obtain ⟨rfl,h',tk,es,ep,t,ks,m,rfl,T,hk,ex⟩:=hr₂
          repeat (any_goals (first | assumption | wp_step))
          exact k _ _ _ _ _ _ _ T hk ex
        | _=>exact hr₂.elim
   | _=>exact hr.elim
end
end HK
namespace SX
open PySem PySem.Spec PyProof.Rows
section
variable {P : Program} {w : World} {A : Around} {E : Value → Shared → Prop} {s : Shared} {it S : Addr} {es : Es} {ep : Nat} {t : SetTable}
theorem zgz {first:Value} {sl:Nat} {i:Nat} {R:Option Value->Shared->Prop} (hf:first = .int sl 0) (ho:s.heap.get? it=some (itO first i S es.size ep)) (T:Sx w s.heap S es ep t)
 (h:wpAny (model P w) A.in1 (setNext S sl i ep) (fun r s₁=>s₁=s/\match r with
  | some (x,nx)=>∀ h',h'.get? it=some (itO (.int nx 0) (i+1) S es.size ep)->Heap.SameBut it s.heap h'->R (some x) { s with heap:=h' }
  | none=>∀ h',(∀ b o,b ≠ it->s.heap.get? b=some o->h'.get? b=some o)->R none { s with heap:=h' }) (fun _ _=>False) s) (hh:A.handled=none):wpAny (model P w) A (pyNext (.ref it)) R E s:=by
 subst hf
 have hT:s.TypeIs (.ref it) "set_iterator" := ⟨_,ho,rfl⟩
 unfold pyNext
 refine wpAny_bind (wpAny_attempt (wpAny_callSpecial?_slot (name:=Str.ofString "__next__") hT nx_slot (wpAny_call_entry nx_slot hT zmk ?_ (zpm _))))
 unfold Builtin.«set_iterator.__next__»
 refine wpAny_bind (wpAny_pure ?_)
 refine wpAny_bind (wpAny_fieldsOf ho rfl ?_)
 refine wpAny_bind (T.entries ?_)
 refine wp_f (by simp) ?_
 refine wpAny_bind (wpAny_mono h (fun r s₁ q=>?_) fun _ _ z=>z.elim)
 obtain ⟨rfl,q⟩:=q
 match r,q with
 | some (x,nx),q =>
   refine wpAny_bind (wpAny_setField_rec ho (by simp) fun h1 e1 b1=>?_)
   refine wpAny_bind (wpAny_setField_rec (s:={ s₁ with heap:=h1 }) e1 (by simp) fun h2 e2 b2=>?_)
   refine wpAny_pure ⟨x,rfl,wpAny_pure (q h2 ?_ (b1.trans b2))⟩
   exact e2
 | none,q =>
   refine wpAny_bind (wpAny_setField_rec ho (by simp) fun h1 e1 b1=>?_)
   exact zpn (s:={ s₁ with heap:=h1 }) hh fun h' ex=>q h' fun b o n e=>ex b o ((b1.2 b n).trans e)
end
end SX
namespace SX
open PySem PySem.Spec PyProof.Rows
section
variable {P : Program} {w : World} {A : Around} {E : Value → Shared → Prop} {s : Shared} {it S : Addr} {es : Es} {ep : Nat} {t : SetTable}
theorem zwf {sl i:Nat} {Q:Option (Value × Nat)->Shared->Prop} (hb:byT w=true) (T:Sx w s.heap S es ep t) (h:Q (((pickOrder (w.params.setOrder S ep) es)[i]?).map fun e=>(e.2,sl)) s):wpAny (model P w) A (setNext S sl i ep) Q E s:=by
 unfold setNext
 refine wpAny_bind (T.state ?_)
 refine wpAny_bind (zi8 ?_)
 rw [hb]
 refine wp_t rfl ?_
 refine wp_f (by simp) ?_
 refine wpAny_bind ?_
 unfold setWalk
 refine wpAny_bind (T.state ?_)
 refine wpAny_bind (zi8 ?_)
 rw [hb]
 refine wp_t rfl ?_
 exact wpAny_bind (wpAny_askSetting (wpAny_pure (wpAny_pure h)))
theorem zwl {sl i:Nat} {Q:Option (Value × Nat)->Shared->Prop} (hb:byT w=false) (hz:es.size<=1) (T:Sx w s.heap S es ep t) (h:Q (match es[SetTable.below t.place sl]?,t.place[SetTable.below t.place sl]? with
 | some (_,x),some j=>some (x,j+1)
 | _,_=>none) s):wpAny (model P w) A (setNext S sl i ep) Q E s:=by
 unfold setNext
 refine wpAny_bind (T.state ?_)
 refine wpAny_bind (zi8 ?_)
 rw [hb]
 refine wp_f (by decide) ?_
 refine wp_f (show ¬ ((!t.plain && decide (es.size > 1))=true) by simp;lia) ?_
 refine wpAny_bind (m:=if (!t.led && !es.isEmpty)=true then unsupported "set:maker-not-led" else pure ()) (wp_f (by rw [T.led,hb];simp) (wpAny_pure ?_))
 exact wpAny_pure h
theorem zon {Tp:Addr} {pls:List Value} {c:Nat} {i:Nat} {R:Option Value->Shared->Prop} (ho:s.heap.get? it=some (itO (.ref Tp) i S es.size ep)) (hp:s.heap.get? Tp=some { cls := .type "tuple", data := .seq pls.toArray c }) (T:Sx w s.heap S es ep t)
 (h:match pls[i]? with
  | some v=>∃ (j:Nat) (e:Int × Value),v = .int j 0/\es[j]? = some e/\∀ h',h'.get? it=some (itO (.ref Tp) (i+1) S es.size ep)->Heap.SameBut it s.heap h'->R (some e.2) { s with heap:=h' }
  | none=>∀ h',(∀ b o,b ≠ it->s.heap.get? b=some o->h'.get? b=some o)->R none { s with heap:=h' }) (hh:A.handled=none):wpAny (model P w) A (pyNext (.ref it)) R E s:=by
 have hT:s.TypeIs (.ref it) "set_iterator" := ⟨_,ho,rfl⟩
 unfold pyNext
 refine wpAny_bind (wpAny_attempt (wpAny_callSpecial?_slot (name:=Str.ofString "__next__") hT nx_slot (wpAny_call_entry nx_slot hT zmk ?_ (zpm _))))
 unfold Builtin.«set_iterator.__next__»
 refine wpAny_bind (wpAny_pure ?_)
 refine wpAny_bind (wpAny_fieldsOf ho rfl ?_)
 refine wpAny_bind (T.entries ?_)
 refine wp_f (by simp) ?_
 refine wpAny_bind (wpAny_seqItems hp rfl ?_)
 have ea:(pls.toArray)[(i:Int).toNat]? = pls[i]?:=by simp
 dsimp only
 rw [ea]
 cases hv:pls[i]? with
 | some v =>
   rw [hv] at h
   obtain ⟨j,e,rfl,he,h⟩:=h
   dsimp only
   refine wpAny_bind ?_
   unfold setNextDrawn
   refine wpAny_bind (T.state ?_)
   refine wp_f (by simp) ?_
   have ej:es[(j:Int).toNat]? = some e:=by simpa using he
   rw [ej]
   refine wpAny_pure ?_
   refine wpAny_bind (wpAny_setField_rec ho (by simp) fun h1 e1 b1=>?_)
   exact wpAny_pure ⟨_,rfl,wpAny_pure (h h1 e1 b1)⟩
 | none =>
   rw [hv] at h
   dsimp only
   refine wpAny_bind (wpAny_setField_rec ho (by simp) fun h1 e1 b1=>?_)
   refine wpAny_bind (wpAny_setField_rec (s:={ s with heap:=h1 }) e1 (by simp) fun h2 e2 b2=>?_)
   exact zpn (s:={ s with heap:=h2 }) hh fun h' ex=>h h' fun b o n e=>ex b o ((b2.2 b n).trans ((b1.2 b n).trans e))
theorem zjk {first:Value} {i n:Nat} {Q:Value->Shared->Prop} (ho:s.heap.get? it=some (itO first i S n ep)) (h:Q (.ref it) s):wpAny (model P w) A (pyIter (.ref it)) Q E s:=by
 have hT:s.TypeIs (.ref it) "set_iterator" := ⟨_,ho,rfl⟩
 refine wpAny_pyIter_slot hT zph (wpAny_call_entry zph hT zvr ?_ (zxl _))
 exact wpAny_pure ⟨_,rfl, "set_iterator", _,hT,nx_slot.lookup,h⟩
end
end SX
namespace SX
open PySem PySem.Spec PyProof.Rows
section
variable {P : Program} {w : World} {A : Around} {E : Value → Shared → Prop} {s : Shared} {it S : Addr} {es : Es} {ep : Nat} {t : SetTable}
noncomputable def ordP (ord:List (Int × Value)):Nat->Value->Prop:=fun i v=>∃ e,ord[i]? = some e/\v=e.2
theorem z0w (hh:A.handled=none) (hb:byT w=true) (ne:S ≠ it) :
 Walks P w A it [it,S] [it] (pickOrder (w.params.setOrder S ep) es).toList.length (ordP (pickOrder (w.params.setOrder S ep) es).toList) (fun i h=>(∃ sl:Nat,h.get? it=some (itO (.int sl 0) i S es.size ep))/\Sx w h S es ep t) where
 sub:=fun b z=>by simp at z;simp [z]
 frame:=fun i h h' st k=>⟨let ⟨sl,e⟩:=st.1; ⟨sl,k it (by simp) _ e⟩,st.2.keep fun o e=>k S (by simp) o e⟩
 item:=fun i s Q E hi st k=>by
  obtain ⟨⟨sl,ho⟩,T⟩:=st
  refine zgz rfl ho T (zwf hb T ⟨rfl,?_⟩) hh
  have hx:(pickOrder (w.params.setOrder S ep) es)[i]? = some ((pickOrder (w.params.setOrder S ep) es).toList[i]):=by
   rw [<- Array.getElem?_toList]
   exact List.getElem?_eq_getElem hi
  rw [hx]
  refine fun h' e' sb=>k _ h' s.toks ⟨_,List.getElem?_eq_getElem hi,rfl⟩ ⟨⟨sl,e'⟩,T.keep fun o e=>(sb.2 S ne).trans e⟩ fun b o nb e=>(sb.2 b (by simpa using nb)).trans e
 done:=fun s Q E st k=>by
  obtain ⟨⟨sl,ho⟩,T⟩:=st
  refine zgz rfl ho T (zwf hb T ⟨rfl,?_⟩) hh
  rw [show (pickOrder (w.params.setOrder S ep) es)[(pickOrder (w.params.setOrder S ep) es).toList.length]? = none by simp]
  exact fun h' kp=>k h' s.toks fun b o nb e=>kp b o (by simpa using nb) e
 self:=fun i s Q E st h=>zjk st.1.choose_spec h
theorem znm:∀ {js:List Nat},(∀ j ∈ js,j<es.size)->(js.filterMap fun j=>es[j]?)=js.map fun j=>es[j]?.getD (0,.none)
 | [],_=>rfl
 | j::js,hj=>by
   obtain ⟨e,h1⟩:∃ e,es[j]? = some e:=⟨_,Array.getElem?_eq_getElem (hj j (by simp))⟩
   rw [List.filterMap_cons_some h1,List.map_cons,h1,znm fun x z=>hj x (List.mem_cons_of_mem _ z)]
   rfl
theorem z1n {Tp:Addr} {ord:List (Int × Value)} {js:List Nat} (hh:A.handled=none) (ne:S ≠ it) (nt:Tp ≠ it) (ho:ord=js.filterMap fun j=>es[j]?) (hj:∀ j ∈ js,j<es.size) :
 Walks P w A it [it,S,Tp] [it] ord.length (ordP ord) (fun i h=>h.get? it=some (itO (.ref Tp) i S es.size ep)/\Sx w h S es ep t/\h.get? Tp=some { cls := .type "tuple", data := .seq (js.map fun (j:Nat)=>Value.int j 0).toArray }) where
 sub:=fun b z=>by simp at z;simp [z]
 frame:=fun i h h' st k=>⟨k it (by simp) _ st.1,st.2.1.keep fun o e=>k S (by simp) o e,k Tp (by simp) _ st.2.2⟩
 item:=fun i s Q E hi st k=>by
  obtain ⟨hi1,T,ht⟩:=st
  have el:=ho.trans (znm hj)
  have hl:i<js.length:=by rw [el] at hi;simpa using hi
  obtain ⟨e,h1⟩:∃ e,es[js[i]]? = some e:=⟨_,Array.getElem?_eq_getElem (hj _ (List.getElem_mem hl))⟩
  refine zon hi1 ht T ?_ hh
  rw [List.getElem?_map,List.getElem?_eq_getElem hl]
  refine ⟨js[i],_,rfl,h1,fun h' e' sb=>k _ h' s.toks ⟨e,?_,rfl⟩ ⟨e',T.keep fun o e=>(sb.2 S ne).trans e,(sb.2 Tp nt).trans ht⟩ fun b o nb e=>(sb.2 b (by simpa using nb)).trans e⟩
  rw [el,List.getElem?_map,List.getElem?_eq_getElem hl]
  show some (es[js[i]]?.getD (0,.none))=_
  rw [h1]
  rfl
 done:=fun s Q E st k=>by
  obtain ⟨hi1,T,ht⟩:=st
  have el:ord.length=js.length:=by rw [ho.trans (znm hj)];simp
  refine zon hi1 ht T ?_ hh
  rw [List.getElem?_map,List.getElem?_eq_none (by lia)]
  exact fun h' kp=>k h' s.toks fun b o nb e=>kp b o (by simpa using nb) e
 self:=fun i s Q E st h=>zjk st.1 h
theorem zkl {p:Array Nat} {sl:Nat} (h:p.size=1):SetTable.below p sl=if p.getD 0 sl<sl then 1 else 0:=by
 unfold SetTable.below
 rw [h]
 unfold SetTable.below.go
 rw [if_pos (by lia)]
 show (if p.getD 0 sl<sl then SetTable.below.go p sl 0 1 1 else SetTable.below.go p sl 0 0 0)=_
 split <;> rfl
theorem z1g (hh:A.handled=none) (hb:byT w=false) (hz:es.size<=1) (ne:S ≠ it) :
 Walks P w A it [it,S] [it] es.toList.length (ordP es.toList) (fun i h=>(∃ sl:Nat,(i=0->sl=0)/\(i=1->∃ j,t.place[0]? = some j/\sl=j+1)/\h.get? it=some (itO (.int sl 0) i S es.size ep))/\Sx w h S es ep t) where
 sub:=fun b z=>by simp at z;simp [z]
 frame:=fun i h h' st k=>⟨let ⟨sl,e0,e1,e⟩:=st.1; ⟨sl,e0,e1,k it (by simp) _ e⟩,st.2.keep fun o e=>k S (by simp) o e⟩
 item:=fun i s Q E hi st k=>by
  obtain ⟨⟨sl,h0,_,ho⟩,T⟩:=st
  have hi':i<es.size:=by simpa using hi
  obtain rfl:i=0:=by lia
  obtain rfl:=h0 rfl
  have f1:t.place.size=1:=by
   have:=T.fit
   simp only [SetTable.fits,Bool.and_eq_true,beq_iff_eq] at this
   lia
  have hbel:SetTable.below t.place 0=0:=by rw [zkl f1,if_neg (Nat.not_lt_zero _)]
  refine zgz rfl ho T (zwl hb hz T ⟨rfl,?_⟩) hh
  rw [hbel]
  have e1:es[0]? = some es[0]:=Array.getElem?_eq_getElem hi'
  have e2:t.place[0]? = some t.place[0]:=Array.getElem?_eq_getElem (by lia)
  rw [e1,e2]
  refine fun h' e' sb=>k _ h' s.toks ⟨es[0],by rw [Array.getElem?_toList];exact e1,rfl⟩ ⟨⟨t.place[0]+1,fun z=>by lia,fun _=>⟨_,e2,rfl⟩,e'⟩,T.keep fun o e=>(sb.2 S ne).trans e⟩ fun b o nb e=>(sb.2 b (by simpa using nb)).trans e
 done:=fun s Q E st k=>by
  obtain ⟨⟨sl,_,h1,ho⟩,T⟩:=st
  have f1:t.place.size=es.size:=by
   have:=T.fit
   simp only [SetTable.fits,Bool.and_eq_true,beq_iff_eq] at this
   lia
  refine zgz rfl ho T (zwl hb hz T ⟨rfl,?_⟩) hh
  have none':es[SetTable.below t.place sl]? = none:=by
   by_cases h:es.size=0
   ·exact Array.getElem?_eq_none (by lia)
   ·obtain ⟨j,e1,e2⟩:=h1 (by simp;lia)
    rw [zkl (by lia),Array.getD_eq_getD_getElem?,e1,e2]
    show es[if j<j+1 then 1 else 0]? = none
    rw [if_pos (Nat.lt_succ_self _)]
    exact Array.getElem?_eq_none (by lia)
  rw [none']
  exact fun h' kp=>k h' s.toks fun b o nb e=>kp b o (by simpa using nb) e
 self:=fun i s Q E st h=>zjk st.1.choose_spec.2.2 h
end
end SX
namespace SX
open PySem PySem.Spec PyProof.Rows
section
variable {P : Program} {w : World} {A : Around} {E : Value → Shared → Prop} {s : Shared} {it S : Addr} {es : Es} {ep : Nat} {t : SetTable}
theorem Sx.typ (T:Sx w s.heap S es ep t):s.TypeIs (.ref S) "set" := let ⟨_,ho,hx,_⟩:=T.at_; ⟨_,ho,hx.1⟩
theorem Sx.lts (T:Sx w s.heap S es ep t):S<s.heap.objs.size:=let ⟨_,ho,_⟩:=T.at_;Heap.lt_size ho
theorem zur {Q:Bool->Shared->Prop} (T:Sx w s.heap S es ep t) (h:Q (!byT w && decide (es.size > 1)) s):wpAny (model P w) A (setDrawn S) Q E s:=by
 unfold setDrawn
 refine wpAny_bind (T.state ?_)
 refine wpAny_bind (zi8 ?_)
 have e:(!byT w && (!t.plain && decide (es.size > 1)))=(!byT w && decide (es.size > 1)):=by
  by_cases hz:1<es.size
  ·rw [T.pl hz];simp
  ·simp [hz]
 refine wpAny_pure ?_
 show Q (!byT w && (!t.plain && decide (es.size > 1))) s
 rw [e]
 exact h
theorem zwc {Q:Value->Shared->Prop} (T:Sx w s.heap S es ep t)
 (k:∀ (it:Addr) (h':Heap) (d':Drawn) (ord:List (Int × Value)) (fp:List Addr) (St:Nat->Heap->Prop),ord.Perm es.toList->(∀ A':Around,A'.handled=none->Walks P w A' it fp [it] ord.length (ordP ord) St)->St 0 h'->Ext s.heap h'->(∀ b ∈ fp,b<s.heap.objs.size->b=S)->(∀ b ∈ fp,b<h'.objs.size)->s.heap.objs.size<=it->it ∈ fp->Q (.ref it) { s with heap:=h',drawn:=d' }) :
 wpAny (model P w) A (pyIter (.ref S)) Q E s:=by
 have hlt:=T.lts
 refine wpAny_pyIter_slot T.typ F.slot_set_iter (wpAny_call_entry F.slot_set_iter T.typ zj9 ?_ (F.args_set_iter_1 _))
 unfold Builtin.«frozenset.__iter__»
 refine wpAny_bind (m:=Builtin.Frozenset.slot0 "__iter__" ⟨[.ref S],[]⟩) (wpAny_pure ?_)
 refine wpAny_bind (wpAny_bind (T.entries (wpAny_pure ?_)))
 refine wpAny_bind (zur T ?_)
 have sz:∀ (h:Heap) (o:Obj),(h.push o).objs.size=h.objs.size+1:=fun h o=>Heap.size_push ..
 cases hd:(!byT w && decide (es.size > 1)) with
 | true =>
   refine wp_t rfl ?_
   refine wpAny_bind (zpe es.size _ _ _ (by simp) fun js d hp=>?_)
   have hz:js.length<=sizeLine:=by
    have:=fits_of_scanBound T.lt
    rw [hp.length_eq,List.length_range]
    exact this
   refine wpAny_bind (wpAny_newTuple ?_ (by rw [List.length_map];exact hz))
   have T1:Sx w (s.heap.push { cls := .type "tuple", data := .seq (js.map fun (j:Nat)=>rawInt j).toArray }) S es ep t:=T.keep fun o e=>Heap.get?_push_of_some _ e
   refine wpAny_bind (Sx.epoch (s:={ s with heap:=s.heap.push { cls := .type "tuple", data := .seq (js.map fun (j:Nat)=>rawInt j).toArray },drawn:=d }) T1 ?_)
   refine wpAny_bind (wpAny_newObj_type (wpAny_pure ⟨_,rfl, "set_iterator", _,⟨_,Heap.get?_push_size _ rfl,rfl⟩,nx_slot.lookup,?_⟩))
   have hj:∀ j ∈ js,j<es.size:=fun j z=>List.mem_range.mp (hp.mem_iff.mp z)
   refine k _ _ d (js.filterMap fun j=>es[j]?) [(s.heap.push { cls := .type "tuple", data := .seq (js.map fun (j:Nat)=>rawInt j).toArray }).objs.size,S,s.heap.objs.size] _ ?_ (fun A' hA=>z1n (t:=t) (ep:=ep) hA ?_ ?_ rfl hj) ⟨Heap.get?_push_size _ rfl,T1.keep fun o e=>Heap.get?_push_of_some _ e,Heap.get?_push_of_some _ (Heap.get?_push_size _ rfl)⟩ (fun b o e=>Heap.get?_push_of_some _ (Heap.get?_push_of_some _ e)) ?_ ?_ ?_ (by simp)
   ·refine (hp.filterMap _).trans ?_
    rw [filterMap_getElem?_range]
   ·rw [sz];exact Nat.ne_of_lt (Nat.lt_succ_of_lt hlt)
   ·rw [sz];exact Nat.ne_of_lt (Nat.lt_succ_self _)
   ·intro b hb hl
    rw [sz] at hb
    simp at hb
    rcases hb with rfl | rfl | rfl
    ·exact absurd hl (Nat.not_lt.mpr (Nat.le_succ _))
    ·rfl
    ·exact absurd hl (Nat.lt_irrefl _)
   ·intro b hb
    rw [sz] at hb
    rw [sz,sz]
    simp at hb
    rcases hb with rfl | rfl | rfl
    ·exact Nat.lt_succ_self _
    ·exact Nat.lt_succ_of_lt (Nat.lt_succ_of_lt hlt)
    ·exact Nat.lt_succ_of_lt (Nat.lt_succ_self _)
   ·rw [sz];exact Nat.le_succ _
 | false =>
   refine wp_f (by decide) (wpAny_bind (wpAny_pure ?_))
   refine wpAny_bind (T.epoch ?_)
   refine wpAny_bind (wpAny_newObj_type (wpAny_pure ⟨_,rfl, "set_iterator", _,⟨_,Heap.get?_push_size _ rfl,rfl⟩,nx_slot.lookup,?_⟩))
   have ne:S ≠ s.heap.objs.size:=Nat.ne_of_lt hlt
   have fpo:∀ b ∈ [s.heap.objs.size,S],b<s.heap.objs.size->b=S:=fun b hb hl=>by
    simp at hb
    rcases hb with rfl | rfl
    ·exact absurd hl (Nat.lt_irrefl _)
    ·rfl
   have fpl:∀ o:Obj,∀ b ∈ [s.heap.objs.size,S],b<(s.heap.push o).objs.size:=fun o b hb=>by
    rw [sz]
    simp at hb
    rcases hb with rfl | rfl
    ·exact Nat.lt_succ_self _
    ·exact Nat.lt_succ_of_lt hlt
   cases hb:byT w with
   | true =>
     exact k _ _ s.drawn _ [s.heap.objs.size,S] _ (zst _ es) (fun A' hA=>z0w (t:=t) hA hb ne) ⟨⟨0,Heap.get?_push_size _ rfl⟩,T.keep fun o e=>Heap.get?_push_of_some _ e⟩ (fun b o e=>Heap.get?_push_of_some _ e) fpo (fpl _) (Nat.le_refl _) (by simp)
   | false =>
     have hz:es.size<=1:=by rw [hb] at hd;simpa using hd
     exact k _ _ s.drawn es.toList [s.heap.objs.size,S] _ (.refl _) (fun A' hA=>z1g (t:=t) (ep:=ep) hA hb hz ne) ⟨⟨0,fun _=>rfl,fun z=>absurd z (by decide),Heap.get?_push_size _ rfl⟩,T.keep fun o e=>Heap.get?_push_of_some _ e⟩ (fun b o e=>Heap.get?_push_of_some _ e) fpo (fpl _) (Nat.le_refl _) (by simp)
end
end SX
namespace SX
open PySem PySem.Spec PyProof.Rows
section
variable {P : Program} {w : World} {A : Around} {E : Value → Shared → Prop} {s : Shared} {it S : Addr} {es : Es} {ep : Nat} {t : SetTable}
noncomputable abbrev lO (xs:Array Value) (c:Nat):Obj:={ cls := .type "list", dict:=none,data := .seq xs c,slots:=#[] }
theorem zvz:isSubtype (.type "set") (.type "set")=pure true:=by
 rw [isSubtype_type]
 kernel_rfl
theorem zs4 {a:Addr} {xs:Array Value} {c:Nat} (f:Array Value->Array Value) {Q:Unit->Shared->Prop} (ho:s.heap.get? a=some (lO xs c)) (hz:xs.size<=sizeLine) (hz2:(f xs).size<=sizeLine+1)
 (h:∀ h' c',h'.get? a=some (lO (f xs) c')->Heap.SameBut a s.heap h'->Q () { s with heap:=h' }):wpAny (model P w) A (Builtin.List.listUpdate (.ref a) f) Q E s :=
 listUpdate_at ho rfl (h _ _ (Heap.get?_update_self (Obj.mapSeq f) ho rfl) (.update ..)) hz hz2
theorem zg9 {Q:List Value->Shared->Prop} (hh:A.handled=none) (T:Sx w s.heap S es ep t)
 (k:∀ (h':Heap) (d':Drawn) (tk:Nat) (vs:List Value),Ext s.heap h'->vs.Perm (es.toList.map (·.2))->s.heap.objs.size<h'.objs.size->Q vs { s with heap:=h',drawn:=d',toks:=tk }):wpAny (model P w) A (collect (.ref S)) Q E s:=by
 have hlt:=T.lts
 unfold collect
 refine wpAny_bind (wpAny_runValue (codeAny_builtin F.entry_proto_collect ?_))
 rw [Around.under_plainId F.plain_proto_collect _]
 refine wpAny_bind (m:=newList []) (wpAny_newObj_type ?_)
 refine wpAny_pure ⟨plainId_quiet F.plain_list_iadd _,codeAny_builtin F.entry_list_iadd ?_⟩
 rw [Around.under_plainId F.plain_list_iadd _]
 have T1:Sx w (s.heap.push (lO #[] 0)) S es ep t:=T.keep fun o e=>Heap.get?_push_of_some _ e
 have eL:(s.heap.push (lO #[] 0)).get? s.heap.objs.size=some (lO #[] 0):=Heap.get?_push_size _ rfl
 have sz1:(s.heap.push (lO #[] 0)).objs.size=s.heap.objs.size+1:=Heap.size_push ..
 show wpAny _ A.in1 (Builtin.List.listExtendWith (.ref s.heap.objs.size) (.ref S) (.ref s.heap.objs.size)) _ _ { s with heap:=s.heap.push (lO #[] 0) }
 unfold Builtin.List.listExtendWith
 refine wpAny_bind (wpAny_typeOf (T1.typ (s:={ s with heap:=s.heap.push (lO #[] 0) })) ?_)
 have nsr:Builtin.List.listSameRef (.ref s.heap.objs.size) (.ref S)=false:=by
  show (s.heap.objs.size == S)=false
  exact beq_eq_false_iff_ne.mpr (Nat.ne_of_gt hlt)
 rw [nsr]
 refine wp_f (by decide) ?_
 refine wpAny_bind (zwc (s:={ s with heap:=s.heap.push (lO #[] 0) }) T1 fun it h2 d2 ord fp St hp W st ex fpo fpl hit hmem=>?_)
 have T2:Sx w h2 S es ep t:=T1.keep fun o e=>ex _ o e
 have tS:Shared.TypeIs { s with heap:=h2,drawn:=d2 } (.ref S) "set" := T2.typ (s:={ s with heap:=h2,drawn:=d2 })
 refine wpAny_bind (wpAny_holding ?_)
 unfold Builtin.List.listLengthHint
 refine wpAny_bind (wpAny_specialOf tS F.slot_set_len.lookup ?_)
 generalize hid:("set.__len__" : String)=id0
 (fail_if_success (clear hid id0))
 wp_delta
 rw [show splitId id0=some ("set", "__len__") from by subst hid;decide +kernel]
 subst hid
 refine wpAny_bind (wpAny_isInstance (b:=true) tS zvz ?_)
 refine wp_f (by decide) ?_
 refine wp_t (by decide +kernel) ?_
 refine wpAny_bind (wpAny_typeOf tS ?_)
 refine wpAny_pure ?_
 refine wp_t (by decide +kernel) ?_
 refine wpAny_bind (wpAny_rule ?_)
 refine wpAny_bind ?_
 unfold Builtin.List.listTouch
 have h64:(0:Nat)<=sizeLine:=Nat.zero_le _
 have eL2:h2.get? s.heap.objs.size=some (lO #[] 0):=ex _ _ eL
 refine wpAny_bind (zs4 (s:={ s with heap:=h2,drawn:=d2 }) (·.push Value.none) eL2 h64 (by simp) fun h3 c3 e3 b3=>?_)
 refine zs4 (s:={ s with heap:=h3,drawn:=d2 }) (·.pop) e3 (by rw [sizeLine_eq];decide) (by simp) fun h4 c4 e4 b4=>?_
 have nLf:s.heap.objs.size ∉ fp:=fun z=>by
  have:=fpo _ z (by rw [sz1];exact Nat.lt_succ_self _)
  exact Nat.ne_of_gt hlt this
 have st4:St 0 h4:=(W A hh).frame 0 h2 h4 st fun b hb o e=>by
  have nb:b ≠ s.heap.objs.size:=fun z=>nLf (z ▸ hb)
  exact (b4.2 b nb).trans ((b3.2 b nb).trans e)
 have hn:ord.length<=sizeLine:=by
  rw [hp.length_eq,Array.length_toList]
  exact fits_of_scanBound T.lt
 refine wpAny_pure ⟨plainId_quiet F.plain_extend_loop _,codeAny_extend_loopS (W A.in1 (by simpa using hh)).toS hn _ nLf _ ord.length 0 { s with heap:=h4,drawn:=d2 } #[] c4 rfl (Nat.zero_le _) st4 e4 (ItemsOf.nil _) fun s' acc c mv eA hacc=>?_⟩
 refine wpAny_bind (wpAny_load eA (wpAny_pure ?_))
 obtain ⟨h5,g5,d5,tk5,os5⟩:=s'
 obtain rfl:g5=s.gens:=mv.gens
 obtain rfl:d5=d2:=mv.drawn
 obtain rfl:os5=s.os:=mv.os
 have ev:acc.toList=ord.map (·.2):=by
  refine List.ext_getElem? fun i=>?_
  rw [Array.getElem?_toList]
  by_cases hi:i<acc.size
  ·rw [Array.getElem?_eq_getElem hi]
   obtain ⟨e,h1,h2⟩:=hacc.2 i _ (Array.getElem?_eq_getElem hi)
   rw [List.getElem?_map,h1,h2]
   rfl
  ·rw [Array.getElem?_eq_none (by lia),List.getElem?_map,List.getElem?_eq_none (by have:=hacc.1;lia)]
   rfl
 refine k h5 d5 tk5 acc.toList (fun b o e=>mv.heap b o (fun z=>?_) ?_) (by rw [ev];exact hp.map _) (Heap.lt_size eA)
 ·have hbl:=Heap.lt_size e
  rcases List.mem_cons.mp z with z | z
  ·exact Nat.ne_of_lt hbl z
  ·rw [List.mem_singleton.mp z] at hbl
   have:s.heap.objs.size+1<=it:=by rw [<- sz1];exact hit
   exact absurd hbl (Nat.not_lt.mpr (Nat.le_of_succ_le this))
 ·have nb:b ≠ s.heap.objs.size:=Nat.ne_of_lt (Heap.lt_size e)
  exact (b4.2 b nb).trans ((b3.2 b nb).trans (ex b o (Heap.get?_push_of_some _ e)))
end
end SX
namespace SX
open PySem PySem.Spec PyProof.Rows
section
variable {P : Program} {w : World} {A : Around} {E : Value → Shared → Prop} {s : Shared} {it S : Addr} {es : Es} {ep : Nat} {t : SetTable}
theorem zow:∀ {vs:List Value},(∀ v ∈ vs,∃ x t,v = .str x t)->StrsAre vs (vs.map strOf)
 | [],_ => .nil
 | v::vs,h=>by
   obtain ⟨x,t,rfl⟩:=h v (by simp)
   exact .cons x t (zow fun u z=>h u (List.mem_cons_of_mem _ z))
theorem zqc {Q:Value->Shared->Prop} (hh:A.handled=none) (T:Tx P w s.heap S es ep t) (h64:es.size<64)
 (k:∀ (h':Heap) (d':Drawn) (tk:Nat) (out:Array Value) (c:Nat) (zs:List Str) (l:Addr),Ext s.heap h'->s.heap.objs.size<=l->h'.get? l=some (seqObj "list" out c)->StrsAre out.toList zs->zs.Perm (keys es)->sortedS zs=true->Q (.ref l) { s with heap:=h',drawn:=d',toks:=tk }) :
 wpAny (model P w) A (call (.builtin "sorted") [.ref S]) Q E s:=by
 refine Calls.call_function_entry kind_sorted plain_sorted entry_sorted (args_sorted1 _) ?_
 unfold Builtin.«sorted»
 refine wpAny_bind (m:=checkCount "sorted" 1 1 _) (wpAny_pure ?_)
 refine wpAny_bind (zg9 (by simpa using hh) T.toSx fun h' d' tk vs ex hp hl=>?_)
 have v64:vs.length<64:=by rw [hp.length_eq];simpa using h64
 refine wpAny_bind (wpAny_newList ?_ (by rw [sizeLine_eq];lia))
 have hS:StrsAre vs (vs.map strOf):=zow fun v z=>by
  obtain ⟨e,he,rfl⟩:=List.mem_map.mp (hp.mem_iff.mp z)
  obtain ⟨⟨x,hx,_⟩,_⟩:=T.el e he
  obtain ⟨u,hu⟩:=Value.isStrOf_shape hx
  exact ⟨x,u,hu⟩
 have eL:(h'.push (seqObj "list" vs.toArray 0)).get? h'.objs.size=some (seqObj "list" vs.toArray 0):=Heap.get?_push_size _ rfl
 refine wpAny_bind (wpAny_holding (wpAny_call_entry slot_list_sort ⟨_,eL,rfl⟩ entry_list_sort (list_sort_treeK (s:={ s with heap:=h'.push (seqObj "list" vs.toArray 0),drawn:=d',toks:=tk }) strKind_oneLt eL hS.keysOf (fun v₁ v₂ rest e=>keyKind_strs (by rw [<- e];exact hS)) v64 fun st' a1 a2=>⟨_,rfl,?_⟩) (args_list_sort _)))
 obtain ⟨zs,z1,z2,z3⟩:=sorted_out_str hS a1 a2
 obtain ⟨c,ec⟩:=sortedHeap_at (out:=(arrOf st').map (·.2)) eL
 refine wpAny_pure ⟨_,rfl,k _ d' tk _ c zs h'.objs.size (fun b o e=>?_) (Nat.le_of_lt hl) ec z1 ?_ z3⟩
 ·have eb:=ex b o e
  have nb:b ≠ h'.objs.size:=Nat.ne_of_lt (Heap.lt_size eb)
  show (sortedHeap (h'.push (seqObj "list" vs.toArray 0)) h'.objs.size vs _).get? b=_
  rw [sortedHeap_old nb (by rw [size_push'];exact Nat.lt_succ_of_lt (Heap.lt_size eb))]
  exact Heap.get?_push_of_some _ eb
 ·refine z2.trans ?_
  have:=hp.map strOf
  rw [List.map_map] at this
  exact this
end
end SX
namespace L3
open PySem PySem.Spec
open PyProof.Rows hiding St
open L2
open SX
theorem Inv.draw {X:Cx} {pins:List (Addr × Obj)} {σ:List (Option V)} {H:Hp} {s:Shared} (I:Inv X pins σ H s) (d:Drawn):Inv X pins σ H { s with drawn:=d } :=
 ⟨I.ok,I.os,I.bare,I.base,I.loc,I.cell,I.free,I.freeC,I.pin,I.hok,I.len⟩
noncomputable def TxsV (K:PySem.W.Frag) (H:Hp) (v:V) (ys:List Str):Prop:=(∃ x:Str,v = .str x/\ys=x.cps.toList.map sg)\/∃ a,v = .ref a/\SqL K H a (ys.map V.str)
noncomputable def tSS (K:PySem.W.Frag) (te:TE):TE:=fun σ H Q=>te σ H fun v H1=>∃ ys:List Str,TxsV K H1 v ys/\ys.length<64/\∀ (zs:List Str) p,zs.Nodup->(∀ k,k ∈ zs↔k ∈ ys)->sortedS zs=true->H1 p=none->Q (.ref p) (upd H1 p (.lst (zs.map V.str)))
theorem z0y {P:Program} {w:World} {h:Heap} (x:Str) (tk:Tok):Src P w h (.str x tk) x.cps.size (SignAt x):=fun A E s₁ Q hh ex k=>by
 refine wpAny_pyIter_str fun o St W st=>?_
 refine k _ _ [s₁.heap.objs.size] St W st (fun b o e=>Heap.get?_push_of_some _ e) (fun b hb => .inr (by simp at hb;exact Nat.le_of_eq hb.symm)) (Nat.le_refl _)
theorem zsc {P:Program} {w:World} {h:Heap} {l:Addr} {items:Array Value} (hl:h.IsList l items):Src P w h (.ref l) items.size (fun i v=>items[i]? = some v):=fun A E s₁ Q hh ex k=>by
 have hl1:s₁.heap.IsList l items:=hl.at fun o e=>ex l o e
 have lt:l<h.objs.size:=by obtain ⟨o,e,_⟩:=hl;exact Heap.lt_size e
 have lt1:l<s₁.heap.objs.size:=by obtain ⟨o,e,_⟩:=hl1;exact Heap.lt_size e
 refine wpAny_pyIter_list hl1 ?_
 refine k s₁.heap.objs.size _ [s₁.heap.objs.size,l] _ (fun A' hA=>Walks.list hA _ l (Nat.ne_of_lt lt1) items) ⟨⟨_,Heap.get?_push_size _ rfl,rfl,rfl⟩,hl1.push _⟩ (fun b o e=>Heap.get?_push_of_some _ e) (fun b hb=>?_) (Nat.le_refl _)
 simp at hb
 rcases hb with rfl | rfl
 ·exact .inr (Nat.le_refl _)
 ·exact .inl lt
theorem ztb {xs ys:List Str} (h:xs.Nodup) (hs:∀ k ∈ xs,k ∈ ys):xs.length<=ys.length:=by
 induction xs generalizing ys with
 | nil=>exact Nat.zero_le _
 | cons x xs ih =>
   have hx:x ∈ ys:=hs x (by simp)
   have h':=List.nodup_cons.mp h
   have:=ih (ys:=ys.erase x) h'.2 fun k hk=>(List.mem_erase_of_ne (fun z:k=x=>h'.1 (z ▸ hk))).mpr (hs k (List.mem_cons_of_mem _ hk))
   rw [List.length_erase_of_mem hx] at this
   have:0<ys.length:=List.length_pos_of_mem hx
   simp only [List.length_cons]
   lia
theorem zqz {X:Cx} {e:Expr} {te:TE} {p1 p2 p3 p4:Pos} (hc:X.calm=true) (gl:Gl X "sorted") (ml:X.mg "sorted" = none) (gr:Gl X "set") (mr:X.mg "set" = none) (he:PE X e te)
 (s1:starEach [.Call (.Name "set" p2) [e] [] p3] X.env=(false,eval (.Call (.Name "set" p2) [e] [] p3) X.env)::starEach [] X.env:=by rfl) (s2:starEach [e] X.env=(false,eval e X.env)::starEach [] X.env:=by rfl) :
 PE X (.Call (.Name "sorted" p1) [.Call (.Name "set" p2) [e] [] p3] [] p4) (tSS X.K te):=by
 intro pins s σ H Q I h
 have calm:=I.ok.hd hc
 refine wpAny_Call_Name_kw (zc0 I gl ml zf1 ?_)
 refine PyProof.Rows.callWith_builtin1 ?_ s1
 rw [s1]
 show wpAny _ _ (spliced ((false,eval (.Call (.Name "set" p2) [e] [] p3) X.env) :: [])) _ _ s
 refine Calls.spliced_cons ?_
 refine wpAny_Call_Name_kw (zc0 I gr mr (u := .type "set") rfl ?_)
 refine PyProof.Rows.callWith_type1 ?_ s2
 rw [s2]
 show wpAny _ _ (spliced ((false,eval e X.env) :: [])) _ _ s
 refine Calls.spliced_cons (thn (he pins s σ H _ I h) fun u s' ⟨y,H1,I1,r1,ys,hy,hz,q⟩=>?_)
 refine Calls.spliced_nil ?_
 have fin:∀ (n:Nat) (val:Nat->Str) (h':Heap) (tk:Nat) (es:Es) (ep:Nat) (t:SetTable),(∀ k,(∃ j,j<n/\val j=k)↔k ∈ ys)->Tx X.prog X.w h' s'.heap.objs.size es ep t->(∀ x,x ∈ keys es↔∃ j,j<n/\val j=x)->Ext s'.heap h' ->
  wpAny (model X.prog X.w) X.A (spliced []) (fun a s₁=>wpAny (model X.prog X.w) X.A (call (.builtin "sorted") (Value.ref s'.heap.objs.size::a)) (EP X pins σ Q) X.xe s₁) X.xe { s' with heap:=h',toks:=tk }:=fun n val h' tk es ep t hv T hk ex=>by
  have mem:∀ k,k ∈ keys es↔k ∈ ys:=fun k=>(hk k).trans (hv k)
  have z64:es.size<64:=by
   have:=ztb T.nd (fun k hk=>(mem k).mp hk)
   simp [keys] at this
   lia
  refine Calls.spliced_nil ?_
  refine zqc (s:={ s' with heap:=h',toks:=tk }) calm T z64 fun h2 d2 tk2 out c zs l ex2 hl el st zp zs'=>?_
  have lt':s'.heap.objs.size<=l:=Nat.le_trans (Nat.le_of_lt (T.lts (s:={ s' with heap:=h',toks:=tk }))) hl
  have I2:=(Inv.draw (I1.laid (a:=l) (o := .lst (zs.map V.str)) (t':=tk2) (h':=h2) (fun b o e=>ex2 b o (ex b o e)) lt' ?_) d2)
  ·exact ⟨.ref l,_,I2,rfl,q zs l (zp.nodup_iff.mpr T.nd) (fun k=>by rw [zp.mem_iff];exact mem k) zs' (I1.hok.fresh lt')⟩
  ·refine ⟨?_,out.toList,c,zd5 st,by simpa using el⟩
   rw [List.length_map,zp.length_eq]
   simp only [keys,List.length_map,Array.length_toList]
   exact fits_of_scanBound T.lt
 rcases hy with ⟨x,rfl,rfl⟩ | ⟨a,rfl,hq⟩
 ·obtain ⟨tk,rfl⟩:=r1
  have hn:x.cps.size<64:=by simpa using hz
  refine zku (T := "str") (val:=fun i=>sg (x.cps.getD i 0)) calm (fun _ _=>rfl) ?_ ?_ (by decide) (z0y x tk) (fun i v hv=>?_) (by unfold scanBound;lia) fun h' tk' es ep t T hk ex=>fin x.cps.size _ h' tk' es ep t (fun k=>?_) T hk ex
  ·rw [isSubtype_type];kernel_rfl
  ·rw [isSubtype_type];kernel_rfl
  ·obtain ⟨c,u,hc,rfl⟩:=hv
   exact ⟨u,by rw [Array.getD_eq_getD_getElem?,hc];rfl⟩
  ·constructor
   ·rintro ⟨j,hj,rfl⟩
    exact List.mem_map.mpr ⟨x.cps[j],by simp,by simp [hj]⟩
   ·intro hk
    obtain ⟨c,hc,rfl⟩:=List.mem_map.mp hk
    obtain ⟨j,hj,e⟩:=List.getElem_of_mem hc
    have hj':j<x.cps.size:=by simpa using hj
    exact ⟨j,hj',by simp at e;simp [hj',e]⟩
 ·cases r1
  obtain ⟨its,rv,pl,hz2⟩:=I1.list hq
  have sa:=zfq rv
  have ln:its.length=ys.length:=by have:=rv.length;simp at this;exact this.symm
  refine zku (T := "list") (val:=fun i=>ys.getD i (sg 0)) calm (fun s₁ ex=>?_) F.sub_list_set F.sub_list_frozenset (by decide) (zsc pl.isList) (fun i v hv=>?_) (by unfold scanBound;simp;lia) fun h' tk' es ep t T hk ex=>fin _ _ h' tk' es ep t (fun k=>?_) T hk ex
  ·obtain ⟨o,e,c,_⟩:=pl.isList
   exact ⟨o,ex _ o e,c⟩
  ·have hv':its[i]? = some v:=by simpa using hv
   have hi:i<ys.length:=by
    obtain ⟨z,_⟩:=List.getElem?_eq_some_iff.mp hv'
    lia
   obtain ⟨u,hu,ru⟩:=rv.get (i:=i) (x:=V.str ys[i]) (by rw [List.getElem?_map,List.getElem?_eq_getElem hi];rfl)
   rw [hv'] at hu
   cases hu
   obtain ⟨u,rfl⟩:=ru
   exact ⟨u,by rw [List.getD_eq_getElem?_getD,List.getElem?_eq_getElem hi];rfl⟩
  ·have e:its.toArray.size=ys.length:=by simpa using ln
   rw [e]
   constructor
   ·rintro ⟨j,hj,rfl⟩
    rw [List.getD_eq_getElem?_getD,List.getElem?_eq_getElem hj]
    exact List.getElem_mem hj
   ·intro hk
    obtain ⟨j,hj,e⟩:=List.getElem_of_mem hk
    exact ⟨j,hj,by rw [List.getD_eq_getElem?_getD,List.getElem?_eq_getElem hj];exact e⟩
noncomputable def TxsD (d:PyData) (ys:List Str):Prop:=(∃ x:Str,d = .str x/\ys=x.cps.toList.map sg)\/d = .list (ys.map .str)
noncomputable def ssD (f:DE):DE:=fun ρ Q=>f ρ fun r=>∃ ys:List Str,TxsD r.d ys/\ys.length<64/\∀ zs:List Str,zs.Nodup->(∀ k,k ∈ zs↔k ∈ ys)->sortedS zs=true->Q (.n (zs.map .str))
theorem z3z {K:PySem.W.Frag} {O:Ob} {te:TE} {f:DE} (h:ED K O te f):ED K O (tSS K te) (ssD f):=fun σ H ρ Q Qd S hf k=>by
 refine h σ H ρ _ _ S hf fun v H1 r s1 o1 ⟨ys,hy,hl,q⟩=>?_
 have i:=o1.is S.ok S.p
 have ok:=S.ok
 have p1:=s1.p S.p
 refine ⟨ys,?_,hl,fun zs p h1 h2 h3 hn=>?_⟩
 ·rcases hy with ⟨x,e,rfl⟩ | e
  ·rw [e] at i
   cases i
   exact .inl ⟨x,rfl,rfl⟩
  ·rw [e] at i
   cases i with
   | list f1 a1 b1 =>
     rw [zfe b1] at a1
     exact .inr ⟨_,rfl,.of a1⟩
 ·obtain ⟨a1,a2⟩:=zcp (K:=K) ok hn (zib zs)
  exact k _ _ _ (s1.trans a1) (a2.ahead ok S.p s1) (q zs h1 h2 h3)
theorem ztc {ι κ:Type} {P:Program} {w:World} {K:PySem.W.Frag} {mg:Str->Option Value} {base:Heap} {k:Nat} {X:ι->Cx} {O:κ->Ob} {a:Expr} {fa:DE} {p1 p2 p3 p4:Pos} (C:Ctx3 P w K mg base k X) (B:Blt mg) (ha:E3 K X O a fa) (g1:∀ i,Gl (X i) "sorted" := by intro i;rfl) (g2:∀ i,Gl (X i) "set" := by intro i;rfl)
 (s1:∀ i,starEach [.Call (.Name "set" p2) [a] [] p3] (X i).env=(false,eval (.Call (.Name "set" p2) [a] [] p3) (X i).env)::starEach [] (X i).env:=by intro i;rfl) (s2:∀ i,starEach [a] (X i).env=(false,eval a (X i).env)::starEach [] (X i).env:=by intro i;rfl) :
 E3 K X O (.Call (.Name "sorted" p1) [.Call (.Name "set" p2) [a] [] p3] [] p4) (ssD fa) :=
 let ⟨_,q,d⟩:=ha
 ⟨tSS K _,fun i=>by
  have h:=zqz (X:=X i) (p1:=p1) (p2:=p2) (p3:=p3) (p4:=p4) (C.calm i) (g1 i) (by rw [C.hmg];exact B.sorted) (g2 i) (by rw [C.hmg];exact B.set) (q i) (s1 i) (s2 i)
  rw [C.hK] at h
  exact h,fun j=>z3z (d j)⟩
end L3
namespace L3
open PySem PySem.Spec
open PyProof.Rows hiding St
open L2
theorem zvq {α:Type} {enc:α->PyData} {i h:Nat} {ft:DT} {fe:DE} {ρ:DSt} {Q:List PyData->Prop} {as:List α} {p:α->Bool} {e:α->PyData}
 (step:∀ a ∈ as,∀ (Pn:Prop) (Py:R->Prop),(p a=false->Pn)->(p a=true->∀ r,r.d=e a->Py r)->ft ((List.replicate h none++ρ).set i (some (.im (enc a)))) fun t=>if t=true then fe ((List.replicate h none++ρ).set i (some (.im (enc a)))) Py else Pn)
 (hz:as.length<=sizeLine) (q:Q ((as.filter p).map e)):zaz h (gN i) ft fe ρ Q (as.map enc) []:=by
 have key:∀ (l:List α) (acc:List PyData),(∀ a ∈ l,a ∈ as)->acc.length+l.length<=sizeLine->Q (acc++(l.filter p).map e)->zaz h (gN i) ft fe ρ Q (l.map enc) acc:=by
  intro l
  induction l with
  | nil=>intro acc _ _ q;show Q acc;simpa using q
  | cons a l ih =>
    intro acc hs hz q
    rw [List.length_cons] at hz
    refine step a (hs a List.mem_cons_self) (zaz h (gN i) ft fe ρ Q (l.map enc) acc) (fun r=>acc.length<sizeLine/\zaz h (gN i) ft fe ρ Q (l.map enc) (acc ++ [r.d])) (fun hp=>?_) (fun hp r hr=>⟨by lia,?_⟩)
    ·refine ih acc (fun b hb=>hs b (List.mem_cons_of_mem _ hb)) (by lia) ?_
     rw [List.filter_cons,hp] at q
     exact q
    ·refine ih _ (fun b hb=>hs b (List.mem_cons_of_mem _ hb)) (by rw [List.length_append,List.length_singleton];lia) ?_
     rw [List.filter_cons,hp,if_pos rfl,List.map_cons] at q
     rw [hr,List.append_assoc]
     exact q
 exact key as [] (fun _ h=>h) (by simpa using hz) (by simpa using q)
end L3
namespace HK
open PySem PySem.Spec PyProof.Rows SX TB L6
section
variable {prog : Program} {w : World} {A : Around} {E : Value → Shared → Prop} {s : Shared}
noncomputable abbrev zg0 (h:Heap) (a:Addr) (vs:List Value):Heap:=((h.update a (Obj.mapSeq fun _=>#[])).push (seqObj "tuple" vs.toArray 0)).push (seqObj "list" #[] 0)
theorem zr5 {α:Type} {blt:α->α->Bool} {k:Nat->α} {a:Addr} {vs:List Value} {n:Nat} {P:PySem.Fin->Shared->Prop} (ho:s.heap.get? a=some (seqObj "list" vs.toArray n)) (h64:vs.length<64) (K:KeysOk prog w A { s with heap:=zg0 s.heap a vs } vs vs blt k)
 (h:∀ ix,Ord blt k vs.length ix->P (.done (.ret .none)) { s with heap:=sortedHeap s.heap a vs (zdf vs ix).toArray }):wpAny (model prog w) A (Builtin.«list.sort» ⟨[.ref a],[]⟩) P E s:=by
 rw [list_sort_plain]
 have ha:a<s.heap.objs.size:=Heap.lt_size ho
 refine wpAny_bind (listItems_at ho rfl ?_)
 refine wpAny_bind (listUpdate_at ho rfl ?_)
 obtain ⟨e1,ho1⟩:∃ e1,(s.heap.update a (Obj.mapSeq fun _=>#[])).get? a=some (seqObj "list" #[] e1):=⟨_,get?_update_seq ho (fun _=>#[])⟩
 refine wpAny_bind (seqEpoch_at ho1 rfl ?_)
 refine wpAny_bind (wpAny_newTuple ?_)
 refine wpAny_bind (wpAny_newList ?_)
 refine wpAny_holding ?_
 have ho6:(zg0 s.heap a vs).get? a=some (seqObj "list" #[] e1):=by
  rw [Heap.get?_push_ne _ _ _ (by rw [size_push',Heap.size_update];exact Nat.ne_of_lt (Nat.lt_succ_of_lt ha)),Heap.get?_push_ne _ _ _ (by rw [Heap.size_update];exact Nat.ne_of_lt ha)]
  exact ho1
 show wpAny (model prog w) A _ P E { s with heap:=zg0 s.heap a vs }
 dsimp only
 have hz:(vs.toArray.zip vs.toArray).size=vs.length:=by simp
 have fin:∀ (st':SortSt) ix,(arrOf st').size=vs.length->(∀ i,i<vs.length->(arrOf st')[i]? = (vs.toArray.zip vs.toArray)[ix i]?)->failedOf st'=none->Ord blt k vs.length ix ->
  wpAny (model prog w) A (do
   let touched:=(<- seqEpoch a) != e1
   Builtin.List.listUpdate (.ref a) fun _=>(arrOf st').map (·.2)
   if let some e:=failedOf st' then rule "list.sort.comparison-raised"; throw e
   if touched then rule "list.sort.modified"; raiseError "ValueError" "list modified during sort"
   ret .none) P E { s with heap:=zg0 s.heap a vs }:=fun st' ix z1 z2 z3 o=>by
  have ep:=zx4 rfl o.bj z1 z2
  refine wpAny_bind (seqEpoch_at ho6 rfl ?_)
  refine wpAny_bind (listUpdate_at ho6 rfl ?_ (hsz2:=by
   rw [sizeLine_eq,ep]
   simp [zdf]
   lia))
  rw [z3]
  simp only [bne_self_eq_false,Bool.false_eq_true,if_false]
  rw [ep]
  exact wpAny_pure (h ix o)
 by_cases h2:vs.toArray.size<2
 ·rw [if_pos h2,if_pos h2]
  refine wpAny_bind (wpAny_pure ?_)
  rw [StateT.run_pure]
  refine wpAny_bind (wpAny_pure ?_)
  have h2':vs.length<2:=by simpa using h2
  exact fin (SortSt.mk' general' (vs.toArray.zip vs.toArray) #[] 7 none) (fun i=>i) hz (fun i _=>rfl) rfl ⟨Bij.idf,fun i j z1 z2=>by lia⟩
 ·rw [if_neg h2,if_neg h2]
  have h2':2<=vs.length:=by simpa using h2
  obtain ⟨kd,kk,cm⟩:=K.kd h2'
  refine wpAny_bind (kk _ _ ?_)
  refine wpAny_bind (wpAny_mono (zxr (kd:=kd) (st:=SortSt.mk' kd (vs.toArray.zip vs.toArray) #[] 7 none) (Q:=fun _ st'=>∃ ix,(arrOf st').size=vs.length/\(∀ i,i<vs.length->(arrOf st')[i]? = (vs.toArray.zip vs.toArray)[ix i]?)/\failedOf st'=none/\Ord blt k vs.length ix)
   K.wo cm ⟨rfl,fun i _=>rfl,Bij.idf,rfl,rfl,rfl⟩ (by lia) (by lia) fun ix st' z1 z2 z3 z4 z5=>?_) ?_ fun _ _ e=>e)
  ·rw [hz] at z1 z2 z3 z5
   exact ⟨ix,z1,z2,z4,z3,z5⟩
  ·rintro ⟨⟨⟩,st'⟩ s' ⟨rfl,ix,z1,z2,z3,z4⟩
   exact fin st' ix z1 z2 z3 z4
theorem zf4 {α β:Type} {f:α->β}:∀ {vs:List β} {l:List α},vs.Perm (l.map f)->∃ l':List α,l'.Perm l/\l'.map f=vs
 | [],l,h=>by
   have:=h.length_eq
   simp at this
   exact ⟨[],by rw [List.length_eq_zero_iff.mp this.symm],rfl⟩
 | v::vs,l,h=>by
   obtain ⟨x,hx,rfl⟩:=List.mem_map.mp (h.mem_iff.mp (List.mem_cons_self))
   obtain ⟨l1,l2,rfl⟩:=List.append_of_mem hx
   rw [List.map_append,List.map_cons] at h
   have h':=(h.trans List.perm_middle).cons_inv
   rw [<- List.map_append] at h'
   obtain ⟨l',a,b⟩:=zf4 h'
   exact ⟨x::l',(a.cons x).trans List.perm_middle.symm,by rw [List.map_cons,b]⟩
theorem zmm {R:(Int × Value)->Addr->PyData->Prop} (hR:∀ e b k,R e b k->e.2 = .ref b):∀ (l:List (Int × Value)) (ks:List PyData),ks.length=l.length->(∀ (i:Nat) e,l[i]? = some e->∃ k b,ks[i]? = some k/\R e b k)->∃ ps:List (Addr × PyData),(ps.map fun p=>Value.ref p.1)=l.map (·.2)/\ps.map (·.2)=ks/\∀ p ∈ ps,∃ e ∈ l,R e p.1 p.2
 | [],[],_,_=>⟨[],rfl,rfl,fun p z=>(List.not_mem_nil z).elim⟩
 | [],_::_,h,_=>by simp at h
 | _::_,[],h,_=>by simp at h
 | e::l,k::ks,h,g=>by
   obtain ⟨k',b,e1,r⟩:=g 0 e rfl
   cases e1
   obtain ⟨ps,a1,a2,a3⟩:=zmm hR l ks (by simpa using h) fun i e' he=>g (i+1) e' (by simpa using he)
   refine ⟨(b,k)::ps,by simp [a1,hR e b k r],by simp [a2],fun p hp=>?_⟩
   rcases List.mem_cons.mp hp with rfl | hp
   ·exact ⟨e,by simp,r⟩
   ·obtain ⟨e',h1,h2⟩:=a3 p hp
    exact ⟨e',List.mem_cons_of_mem _ h1,h2⟩
theorem zt9 {S:Addr} {es:Es} {ep:Nat} {t:SetTable} {ks:List PyData} {m:Nat} {h0:Heap} {Sp:Addr->PyData->Prop} {σ:Sh} {d0:PyData} {Q:Value->Shared->Prop} (hh:A.handled=none) (T:Kx w h0 Sp s.heap S es ep t ks m) (X:Ext h0 s.heap) (hd0:HasSh σ d0) (hs:∀ d ∈ ks,HasSh σ d) (h64:es.size<64) (hu:A.units+64<cLine)
 (k:∀ (h':Heap) (d':Drawn) (tk:Nat) (qs:List (Addr × PyData)) (c:Nat) (l:Addr),Ext s.heap h'->s.heap.objs.size<=l->h'.get? l=some (seqObj "list" (qs.map fun q=>Value.ref q.1).toArray c)->(∀ q ∈ qs,Sp q.1 q.2)->(qs.map (·.2)).Perm ks->(qs.map (·.2)).Pairwise (fun a b=>dlt a b=true)->Q (.ref l) { s with heap:=h',drawn:=d',toks:=tk }) :
 wpAny (model prog w) A (call (.builtin "sorted") [.ref S]) Q E s:=by
 refine Calls.call_function_entry kind_sorted plain_sorted entry_sorted (args_sorted1 _) ?_
 unfold Builtin.«sorted»
 refine wpAny_bind (m:=checkCount "sorted" 1 1 _) (wpAny_pure ?_)
 refine wpAny_bind (zg9 (by simpa using hh) T.toSx fun h' d' tk vs ex hp hl=>?_)
 obtain ⟨ps,p1,p2,p3⟩:=zmm (R:=fun e b k=>e=(hD w k,.ref b)/\(∃ as,Reads h0 (.ref b) k as)/\Sp b k) (fun e b k r=>by rw [r.1]) es.toList ks (by simpa using T.len) fun i e he=>by
  obtain ⟨k',b,as,a1,a2,a3,a4,a5⟩:=T.el i e (by rw [<- Array.getElem?_toList];exact he)
  exact ⟨k',b,a1,a2,⟨as,a4⟩,a5⟩
 rw [<- p1] at hp
 obtain ⟨qs,q1,q2⟩:=zf4 hp
 have qk:(qs.map (·.2)).Perm ks:=by rw [<- p2];exact q1.map _
 have vl:vs.length=qs.length:=by rw [<- q2];simp
 have ql:qs.length=es.size:=by
  have:=qk.length_eq
  rw [T.len] at this
  simpa using this
 have v64:vs.length<64:=by lia
 refine wpAny_bind (wpAny_newList ?_ (by rw [sizeLine_eq];lia))
 have eL:(h'.push (seqObj "list" vs.toArray 0)).get? h'.objs.size=some (seqObj "list" vs.toArray 0):=Heap.get?_push_size _ rfl
 have sh':∀ d ∈ qs.map (·.2),HasSh σ d:=fun d hd=>hs d (qk.mem_iff.mp hd)
 have kt':∀ d ∈ qs.map (·.2),TupK d:=fun d hd=>T.kt d (qk.mem_iff.mp hd)
 have ke:zeh h0 (zg0 (h'.push (seqObj "list" vs.toArray 0)) h'.objs.size vs):=fun b o xs n e _=>by
  have eb:=ex b o (X b o e)
  have lb:=Heap.lt_size eb
  have nb:b ≠ h'.objs.size:=Nat.ne_of_lt lb
  have lb2:b<(h'.push (seqObj "list" vs.toArray 0)).objs.size:=by rw [size_push'];exact Nat.lt_succ_of_lt lb
  rw [Heap.get?_push_ne _ _ _ (by rw [size_push',Heap.size_update];exact Nat.ne_of_lt (Nat.lt_succ_of_lt lb2)),Heap.get?_push_ne _ _ _ (by rw [Heap.size_update];exact Nat.ne_of_lt lb2),Heap.get?_update_ne _ _ _ _ nb]
  exact Heap.get?_push_of_some _ eb
 have KO:KeysOk prog w A.in1.in1 { s with heap:=zg0 (h'.push (seqObj "list" vs.toArray 0)) h'.objs.size vs,drawn:=d',toks:=tk } vs vs (fun a b:{ d:PyData // HasSh σ d }=>dlt a.1 b.1) (fun i=>⟨(qs.map (·.2)).getD i d0,zo5 hd0 sh' i⟩):=by
  refine zys hd0 sh' (by rw [vl];simp) (fun d hd=>(kt' d hd).la) (fun d hd=>(kt' d hd).de) (by show A.units+1+1+12<cLine;lia) fun i v d hv hd=>?_
  rw [<- q2,List.getElem?_map] at hv
  rw [List.getElem?_map] at hd
  cases hq:qs[i]? with
  | none=>rw [hq] at hv;cases hv
  | some q =>
    rw [hq] at hv hd
    cases hv;cases hd
    have mq:=List.mem_of_getElem? hq
    obtain ⟨e,_,_,⟨as,r⟩,_⟩:=p3 q (q1.mem_iff.mp mq)
    have tq:=kt' q.2 (List.mem_map.mpr ⟨q,mq,rfl⟩)
    obtain ⟨ds,eds⟩:=tq.tu
    exact ⟨q.1,ds,as,rfl,eds,tq.keep ke r⟩
 refine wpAny_bind (wpAny_holding (wpAny_call_entry slot_list_sort ⟨_,eL,rfl⟩ entry_list_sort (zr5 (s:={ s with heap:=h'.push (seqObj "list" vs.toArray 0),drawn:=d',toks:=tk }) eL v64 KO fun ix o=>⟨_,rfl,?_⟩) (args_list_sort _)))
 obtain ⟨c,ec⟩:=sortedHeap_at (out:=(zdf vs ix).toArray) eL
 have hb:∀ i,i<vs.length->ix i<qs.length:=fun i hi=>by rw [<- vl];exact o.bj.lt i hi
 have gq:∀ i,i<vs.length->qs[ix i]? = some (qs.getD (ix i) (0,.none)):=fun i hi=>by
  rw [List.getD_eq_getElem?_getD,List.getElem?_eq_getElem (hb i hi)];rfl
 have ep2:zdf vs ix=((List.range vs.length).map fun i=>qs.getD (ix i) (0,.none)).map fun q=>Value.ref q.1:=by
  unfold zdf
  rw [List.map_map]
  refine List.map_congr_left fun i hi=>?_
  have hi':=List.mem_range.mp hi
  show vs.getD (ix i) .none=Value.ref (qs.getD (ix i) (0,.none)).1
  rw [List.getD_eq_getElem?_getD,<- q2,List.getElem?_map,gq i hi']
  rfl
 have pq:((List.range vs.length).map fun i=>qs.getD (ix i) (0,.none)).Perm qs:=by
  have h1:=o.bj.perm.map (fun i=>qs.getD i (0,PyData.none))
  rw [List.map_map] at h1
  refine h1.trans ?_
  have:(List.range vs.length).map (fun i=>qs.getD i (0,PyData.none))=qs:=by
   rw [vl]
   refine List.ext_getElem? fun i=>?_
   by_cases hi:i<qs.length
   ·simp [hi]
   ·rw [List.getElem?_eq_none (by simp;lia),List.getElem?_eq_none (by lia)]
  rw [this]
 refine wpAny_pure ⟨_,rfl,k _ d' tk ((List.range vs.length).map fun i=>qs.getD (ix i) (0,.none)) c h'.objs.size (fun b o' e=>?_) (Nat.le_of_lt hl) (by rw [<- ep2];exact ec) (fun q hq=>?_) ?_ ?_⟩
 ·have eb:=ex b o' e
  have nb:b ≠ h'.objs.size:=Nat.ne_of_lt (Heap.lt_size eb)
  show (sortedHeap (h'.push (seqObj "list" vs.toArray 0)) h'.objs.size vs _).get? b=_
  rw [sortedHeap_old nb (by rw [size_push'];exact Nat.lt_succ_of_lt (Heap.lt_size eb))]
  exact Heap.get?_push_of_some _ eb
 ·obtain ⟨e,_,_,_,sp⟩:=p3 q (q1.mem_iff.mp (pq.mem_iff.mp hq))
  exact sp
 ·exact (pq.map _).trans qk
 ·rw [List.map_map,List.pairwise_map,List.pairwise_iff_getElem]
  intro i j hi hj hij
  simp only [List.length_range] at hi hj
  simp only [List.getElem_range]
  have gd:∀ i,i<vs.length->(qs.map (·.2)).getD (ix i) d0=(qs.getD (ix i) (0,.none)).2:=fun i hi=>by
   rw [List.getD_eq_getElem?_getD,List.getElem?_map,gq i hi];rfl
  have up:=(o.up i j hij hj).le (zw4 σ)
  dsimp only at up
  rw [gd i hi,gd j hj] at up
  have mi:(qs.getD (ix i) (0,.none)).2 ∈ qs.map (·.2):=List.mem_map.mpr ⟨_,List.mem_of_getElem? (gq i hi),rfl⟩
  have mj:(qs.getD (ix j) (0,.none)).2 ∈ qs.map (·.2):=List.mem_map.mpr ⟨_,List.mem_of_getElem? (gq j hj),rfl⟩
  rcases (zgo σ).tri _ _ (sh' _ mi) (sh' _ mj) with z | z | z
  ·exact z
  ·exfalso
   have nd:(qs.map (·.2)).Nodup:=qk.nodup_iff.mpr T.nd
   have e1:(qs.map (·.2))[ix i]? = (qs.map (·.2))[ix j]?:=by
    rw [List.getElem?_map,List.getElem?_map,gq i hi,gq j hj]
    exact congrArg some z
   have:=(List.getElem?_inj (by simpa using hb i hi) nd).mp e1
   have:=o.bj.inj i j hi hj this
   lia
  ·rw [z] at up
   cases up
end
end HK
namespace L3
open PySem PySem.Spec
open PyProof.Rows hiding St
open L2 SX HK
noncomputable def tST (K:PySem.W.Frag) (te:TE):TE:=fun σ H Q=>te σ H fun v H1=>∃ (a:Addr) (xs:List V) (ds:List PyData) (F:Addr->Prop) (τ:Sh) (d0:PyData),v = .ref a/\SqL K H1 a xs/\IsAll K F H1 xs ds/\(∀ d ∈ ds,TupK d)/\HasSh τ d0/\(∀ d ∈ ds,HasSh τ d)/\ds.length<64 /\
 ∀ (zs:List PyData) (ys:List V) p,zs.Nodup->(∀ d,d ∈ zs↔d ∈ ds)->zs.Pairwise (fun a b=>dlt a b=true)->IsAll K F H1 ys zs->H1 p=none->Q (.ref p) (upd H1 p (.lst ys))
theorem zk6:∀ (qs:List (Addr × PyData)),Vals (qs.map fun q=>V.ref q.1) (qs.map fun q=>Value.ref q.1)
 | [] => .nil
 | b::bs => .cons rfl (zk6 bs)
theorem znf {K:PySem.W.Frag} {F:Addr->Prop} {H:Hp}:∀ {qs:List (Addr × PyData)},(∀ q ∈ qs,Is K F H (.ref q.1) q.2)->IsAll K F H (qs.map fun q=>V.ref q.1) (qs.map (·.2))
 | [],_ => .nil
 | q::qs,h => .cons (h q (by simp)) (znf fun r z=>h r (List.mem_cons_of_mem _ z))
theorem zn9 {X:Cx} {e:Expr} {te:TE} {p1 p2 p3 p4:Pos} (hc:X.calm=true) (hu:X.A.units+64<cLine) (gl:Gl X "sorted") (ml:X.mg "sorted" = none) (gr:Gl X "set") (mr:X.mg "set" = none) (he:PE X e te)
 (s1:starEach [.Call (.Name "set" p2) [e] [] p3] X.env=(false,eval (.Call (.Name "set" p2) [e] [] p3) X.env)::starEach [] X.env:=by rfl) (s2:starEach [e] X.env=(false,eval e X.env)::starEach [] X.env:=by rfl) :
 PE X (.Call (.Name "sorted" p1) [.Call (.Name "set" p2) [e] [] p3] [] p4) (tST X.K te):=by
 intro pins s σ H Q I h
 have calm:=I.ok.hd hc
 refine wpAny_Call_Name_kw (zc0 I gl ml zf1 ?_)
 refine PyProof.Rows.callWith_builtin1 ?_ s1
 rw [s1]
 show wpAny _ _ (spliced ((false,eval (.Call (.Name "set" p2) [e] [] p3) X.env) :: [])) _ _ s
 refine Calls.spliced_cons ?_
 refine wpAny_Call_Name_kw (zc0 I gr mr (u := .type "set") rfl ?_)
 refine PyProof.Rows.callWith_type1 ?_ s2
 rw [s2]
 show wpAny _ _ (spliced ((false,eval e X.env) :: [])) _ _ s
 refine Calls.spliced_cons (thn (he pins s σ H _ I h) fun u s' zz=>?_)
 obtain ⟨y,H1,I1,r1,a,xs,ds,F,τ,d0,ey,hq,ia,tk,sh0,sh,hl,q⟩:=zz
 refine Calls.spliced_nil ?_
 subst ey
 cases r1
 obtain ⟨its,rv,pl,hz2⟩:=I1.list hq
 have ln:its.length=ds.length:=by rw [<- rv.length,ia.length]
 have at':∀ (i:Nat) v,its[i]? = some v->∃ b as d,ds[i]? = some d/\v = .ref b/\Reads s'.heap (.ref b) d as/\Is X.K F H1 (.ref b) d:=fun i v hv=>by
  have hi:i<ds.length:=by rw [<- ln];exact (List.getElem?_eq_some_iff.mp hv).1
  obtain ⟨x,hx,ix⟩:=ia.get (List.getElem?_eq_getElem hi)
  obtain ⟨u,hu',ru⟩:=rv.get hx
  rw [hv] at hu'
  cases hu'
  have tki:=tk _ (List.getElem_mem hi)
  obtain ⟨ds',eds⟩:=tki.tu
  rw [eds] at ix
  obtain ⟨as,ra⟩:=ix.reads I1 ru
  cases ix with
  | tuple q1 q2 =>
    cases ru
    exact ⟨_,as,_,(List.getElem?_eq_getElem hi).trans (by rw [eds]),rfl,ra,.tuple q1 q2⟩
 refine zry (T := "list") (val:=fun i=>ds.getD i .none) (Sp:=fun b d=>Is X.K F H1 (.ref b) d) calm (fun s₁ ex=>?_) PySem.F.sub_list_set PySem.F.sub_list_frozenset (by decide) (zsc pl.isList) (fun i hi=>?_) (fun i v hi hv=>?_) hu (by simp;lia) fun h' tk' es ep t ks m T hk ex=>?_
 ·obtain ⟨o,e,c,_⟩:=pl.isList
  exact ⟨o,ex _ o e,c⟩
 ·have hi':i<ds.length:=by rw [<- ln];simpa using hi
  rw [List.getD_eq_getElem?_getD,List.getElem?_eq_getElem hi']
  exact tk _ (List.getElem_mem hi')
 ·have hv':its[i]? = some v:=by simpa using hv
  obtain ⟨b,as,d,e1,e2,e3,e4⟩:=at' i v hv'
  refine ⟨b,as,e2,?_⟩
  rw [List.getD_eq_getElem?_getD,e1]
  exact ⟨e3,e4⟩
 ·have mem:∀ d,d ∈ ks↔d ∈ ds:=fun d=>by
   rw [hk]
   have ez:its.toArray.size=ds.length:=by simpa using ln
   rw [ez]
   constructor
   ·rintro ⟨j,hj,rfl⟩
    rw [List.getD_eq_getElem?_getD,List.getElem?_eq_getElem hj]
    exact List.getElem_mem hj
   ·intro hd
    obtain ⟨j,hj⟩:=List.mem_iff_getElem?.mp hd
    exact ⟨j,(List.getElem?_eq_some_iff.mp hj).1,by rw [List.getD_eq_getElem?_getD,hj];rfl⟩
  have z64:es.size<64:=by
   rw [<- T.len]
   have:ks.length<=ds.length:=by
    classical
    exact TB.len_nd (xs:=ks) (ys:=ds) T.nd fun k hk'=>(mem k).mp hk'
   lia
  refine Calls.spliced_nil ?_
  refine zt9 (s:={ s' with heap:=h',toks:=tk' }) calm T ex sh0 (fun d hd=>sh d ((mem d).mp hd)) z64 hu fun h2 d2 tk2 qs c l ex2 hl2 el sp zp zs=>?_
  have lt':s'.heap.objs.size<=l:=Nat.le_trans (Nat.le_of_lt (T.toSx.lts (s:={ s' with heap:=h',toks:=tk' }))) hl2
  have I2:=(Inv.draw (I1.laid (a:=l) (o := .lst (qs.map fun q=>V.ref q.1)) (t':=tk2) (h':=h2) (fun b o e=>ex2 b o (ex b o e)) lt' ?_) d2)
  ·exact ⟨.ref l,_,I2,rfl,q (qs.map (·.2)) _ l (zp.nodup_iff.mpr T.nd) (fun d=>by rw [zp.mem_iff];exact mem d) zs (znf sp) (I1.hok.fresh lt')⟩
  ·refine ⟨?_,qs.map (fun q=>Value.ref q.1),c,zk6 qs,el⟩
   have:=zp.length_eq
   rw [List.length_map] at this
   rw [List.length_map,this,T.len,sizeLine_eq]
   lia
noncomputable def stD (f:DE):DE:=fun ρ Q=>f ρ fun r=>∃ (ds:List PyData) (τ:Sh) (d0:PyData),r.d = .list ds/\(∀ d ∈ ds,TupK d)/\HasSh τ d0/\(∀ d ∈ ds,HasSh τ d)/\ds.length<64/\∀ zs:List PyData,zs.Nodup->(∀ d,d ∈ zs↔d ∈ ds)->zs.Pairwise (fun a b=>dlt a b=true)->Q (.n zs)
theorem z3n {K:PySem.W.Frag} {O:Ob} {te:TE} {f:DE} (h:ED K O te f):ED K O (tST K te) (stD f):=fun σ H ρ Q Qd S hf k=>by
 refine h σ H ρ _ _ S hf fun v H1 r s1 o1 ⟨ds,τ,d0,e,tk,s0,sh,hl,q⟩=>?_
 have i:=o1.is S.ok S.p
 rw [e] at i
 cases i with
 | list f1 a1 b1 =>
   refine ⟨_,_,ds,_,τ,d0,rfl,.of a1,b1,tk,s0,sh,hl,fun zs ys p h1 h2 h3 h4 hn=>?_⟩
   obtain ⟨c1,c2⟩:=zcp (K:=K) S.ok hn h4
   exact k _ _ _ (s1.trans c1) (c2.ahead S.ok S.p s1) (q zs h1 h2 h3)
theorem zrc {ι κ:Type} {P:Program} {w:World} {K:PySem.W.Frag} {mg:Str->Option Value} {base:Heap} {k:Nat} {X:ι->Cx} {O:κ->Ob} {a:Expr} {fa:DE} {p1 p2 p3 p4:Pos} (C:Ctx3 P w K mg base k X) (B:Blt mg) (ha:E3 K X O a fa) (g1:∀ i,Gl (X i) "sorted" := by intro i;rfl) (g2:∀ i,Gl (X i) "set" := by intro i;rfl)
 (s1:∀ i,starEach [.Call (.Name "set" p2) [a] [] p3] (X i).env=(false,eval (.Call (.Name "set" p2) [a] [] p3) (X i).env)::starEach [] (X i).env:=by intro i;rfl) (s2:∀ i,starEach [a] (X i).env=(false,eval a (X i).env)::starEach [] (X i).env:=by intro i;rfl) :
 E3 K X O (.Call (.Name "sorted" p1) [.Call (.Name "set" p2) [a] [] p3] [] p4) (stD fa) :=
 let ⟨_,q,d⟩:=ha
 ⟨tST K _,fun i=>by
  have h:=zn9 (X:=X i) (p1:=p1) (p2:=p2) (p3:=p3) (p4:=p4) (C.calm i) (C.room i).units (g1 i) (by rw [C.hmg];exact B.sorted) (g2 i) (by rw [C.hmg];exact B.set) (q i) (s1 i) (s2 i)
  rw [C.hK] at h
  exact h,fun j=>z3n (d j)⟩
end L3
namespace L23
open PySem PySem.Spec
open PyProof.Rows hiding St
open L2 L3
noncomputable def top (i:Nat):Stmt:=PySem.Challenge.pw_lostpost_k23_words_that_part.main.body.getD i (.Pass ⟨0,0,0,0⟩)
section
variable {P : Program} {w : World} {K : PySem.W.Frag} {mg : Str → Option Value} {base : Heap} {k : Nat}
noncomputable abbrev zjd (P:Program) (w:World) (K:PySem.W.Frag) (mg:Str->Option Value) (base:Heap):Prop:=Def3 P w K mg base 1 "_law_draw" ["_law_pot_here", "_law_many"] (spD K IsPot 1 zcy)
noncomputable abbrev sPot:Stmt:=top 15
theorem z4m:FnScope ["_law_script", "_law_base", "_law_seed", "_law_left", "_law_cell"] ["_law_script", "_law_base"] (zag sPot):=⟨rfl,rfl,rfl,by decide +kernel,rfl,by decide +kernel,by decide +kernel⟩
theorem d_law_pot (B:Blt mg) (T:Top3 K mg "_law_pot" sPot):Def3 P w K mg base 1 "_law_pot" ["_law_script", "_law_base"] (zlh K):=by
 obtain ⟨f,fd,Fu,m⟩:=T.ex
 refine ⟨f,fd,Fu.ok z4m (fun vs H Q E h=>by obtain ⟨a,ns,rfl,_⟩:=h;rfl) (fun cdv A outer s H vs Q E hr h=>?_),m,Fu.kp,Fu.binds (fun _ _ _ _ _ _ us hl=>len2 hl fun _ _=>rfl)⟩
 obtain ⟨a,ns,rfl,hS,hl,q⟩:=h
 refine ⟨tPot K,?_,zvx hS hl q⟩
 have nd:(["_law_script", "_law_base", "_law_seed", "_law_left", "_law_cell"]:List Str).Nodup:=by decide +kernel
 exact zba (zb9 (i:=2) nd rfl (by first | exact Or.inl rfl | exact Or.inr rfl) (za5 op_add (za5 op_mul zal (zak (i:=1) rfl (by first | exact Or.inl rfl | exact Or.inr (Or.inl rfl) | exact Or.inr (Or.inr rfl)))) zal))
  (zba (zb9 (i:=3) nd rfl (by first | exact Or.inl rfl | exact Or.inr rfl) (zl3 za6))
  (zba (zls PassesOwn.never rfl (zg6 (znp sl_list (zak (i:=0) rfl (by first | exact Or.inl rfl | exact Or.inr (Or.inl rfl) | exact Or.inr (Or.inr rfl))) (zjf (zak (i:=1) rfl (by first | exact Or.inl rfl | exact Or.inr (Or.inl rfl) | exact Or.inr (Or.inr rfl)))) (zjf zal))) (zg5 (i:=4) nd rfl (by first | exact Or.inl rfl | exact Or.inr rfl))
   (zba (zb9 (i:=2) nd rfl (by first | exact Or.inl rfl | exact Or.inr rfl) (za5 zeg (za5 op_add (za5 op_add (za5 op_mul (zak (i:=2) rfl (by first | exact Or.inl rfl | exact Or.inr (Or.inl rfl) | exact Or.inr (Or.inr rfl))) zal) (za5 zeg (zak (i:=4) rfl (by first | exact Or.inl rfl | exact Or.inr (Or.inl rfl) | exact Or.inr (Or.inr rfl))) zal)) zal) zal))
    (zct (zre (ze1 z3u (zak (i:=4) rfl (by first | exact Or.inl rfl | exact Or.inr (Or.inl rfl) | exact Or.inr (Or.inr rfl))) (za5 z3g zal zal) (zb5 _)) (zct (zgu (ze9 PySem.F.plainAttrs_list PySem.F.slot_list_append PySem.F.type_list_append zjb (zak (i:=3) rfl (by first | exact Or.inl rfl | exact Or.inr (Or.inl rfl) | exact Or.inr (Or.inr rfl))) (zas (zak (i:=4) rfl (by first | exact Or.inl rfl | exact Or.inr (Or.inl rfl) | exact Or.inr (Or.inr rfl))) za6)))) zjt))))
  (zct (zf9 (zl3 (zas (zak (i:=2) rfl (by first | exact Or.inl rfl | exact Or.inr (Or.inl rfl) | exact Or.inr (Or.inr rfl))) (zas zal (zas (zak (i:=3) rfl (by first | exact Or.inl rfl | exact Or.inr (Or.inl rfl) | exact Or.inr (Or.inr rfl))) za6))))))))
noncomputable abbrev zp5:Stmt:=top 16
theorem z1m:FnScope ["_law_pot_here", "_law_many", "_law_digit", "_law_one"] ["_law_pot_here", "_law_many"] (zag zp5):=⟨rfl,rfl,rfl,by decide +kernel,rfl,by decide +kernel,by decide +kernel⟩
theorem d_law_draw (B:Blt mg) (T:Top3 K mg "_law_draw" zp5):Def3 P w K mg base 1 "_law_draw" ["_law_pot_here", "_law_many"] (spD K IsPot 1 zcy):=by
 obtain ⟨f,fd,Fu,m⟩:=T.ex
 refine ⟨f,fd,Fu.ok z1m (zje rfl) (fun cdv A outer s H vs Q E hr h=>?_),m,Fu.kp,Fu.binds (fun _ _ _ _ _ _ us hl=>len2 hl fun _ _=>rfl)⟩
 obtain ⟨O,ds,ws,Qr,ok,hφ,p,hl,rfl,is,q,kk⟩:=h
 refine ⟨zq0 K,?_,ztz hφ p is q kk⟩
 have nd:(["_law_pot_here", "_law_many", "_law_digit", "_law_one"]:List Str).Nodup:=by decide +kernel
 exact zba
  (zm9 PassesOwn.never (PW.pt (zrv (ze1 z4b (zd1 ix_list (zak (i:=0) rfl (Or.inl rfl)) zal (fun _ _=>rfl)) zal (zb5 _))
   (zox (ze1 zqq (zfm zhk rfl B.len zmb (zas (zd1 ix_list (zak (i:=0) rfl (Or.inl rfl)) zal (fun _ _=>rfl)) za6)) zal (zb5 _)))))
   (zct (zl5 (ze9 PySem.F.plainAttrs_list PySem.F.slot_list_pop PySem.F.type_list_pop zk0 (zd1 ix_list (zak (i:=0) rfl (Or.inl rfl)) zal (fun _ _=>rfl)) (zas zal za6)) (znx (zak (i:=0) rfl (Or.inl rfl)) zal zhl))))
  (zba (zre (ze1 zqq (zd1 ix_list (zak (i:=0) rfl (Or.inl rfl)) zal (fun _ _=>rfl)) zal (zb5 _))
   (zba (zb9 (i:=2) nd rfl (Or.inl rfl) (za5 zeg (zd1 ix_list (zak (i:=0) rfl (Or.inl rfl)) zal (fun _ _=>rfl)) (zak (i:=1) rfl (Or.inl rfl))))
    (zba (zl5 (za5 zpv (zd1 ix_list (zak (i:=0) rfl (Or.inl rfl)) zal (fun _ _=>rfl)) (zak (i:=1) rfl (Or.inl rfl))) (znx (zak (i:=0) rfl (Or.inl rfl)) zal zhl))
     (zct (zf9 (zak (i:=2) rfl (Or.inl rfl)))))) zjt)
  (zba (zb9 (i:=3) nd rfl (Or.inl rfl) (za5 zeg (za5 op_add (za5 op_mul (zd1 ix_list (zak (i:=0) rfl (Or.inl rfl)) zal (fun _ _=>rfl)) zal) zal) zal))
  (zba (zl5 (za5 op_add (za5 zeg (za5 op_add (za5 op_mul (zak (i:=3) rfl (Or.inl rfl)) zal) zal) zal) zal) (znx (zak (i:=0) rfl (Or.inl rfl)) zal zhl))
  (zct (zf9 (za5 zeg (za5 zpv (za5 op_add (za5 op_mul (za5 zeg (za5 op_mul (zak (i:=3) rfl (Or.inl rfl)) (zak (i:=3) rfl (Or.inl rfl))) zal) zal) (zd1 ix_list (zak (i:=0) rfl (Or.inl rfl)) zal (fun _ _=>rfl))) zal) (zak (i:=1) rfl (Or.inl rfl))))))))
noncomputable abbrev zh0:Stmt:=top 17
theorem ztk:FnScope ["_law_pot_here", "_law_many", "_law_left"] ["_law_pot_here", "_law_many"] (zag zh0):=⟨rfl,rfl,rfl,by decide +kernel,rfl,by decide +kernel,by decide +kernel⟩
theorem zdt (B:Blt mg) (d_law_draw:Def3 P w K mg base 1 "_law_draw" ["_law_pot_here", "_law_many"] (spD K IsPot 1 zcy)) (T:Top3 K mg "_law_letters" zh0):Def3 P w K mg base 2 "_law_letters" ["_law_pot_here", "_law_many"] (spD K IsPot 1 zhr):=by
 obtain ⟨f,fd,Fu,m⟩:=T.ex
 refine ⟨f,fd,Fu.ok ztk (zje rfl) (fun cdv A outer s H vs Q E hr h=>?_),m,Fu.kp,Fu.binds (fun _ _ _ _ _ _ us hl=>len2 hl fun _ _=>rfl)⟩
 obtain ⟨O,ds,ws,Qr,ok,hφ,p,hl,rfl,is,q,kk⟩:=h
 refine ⟨zmz K (spD K IsPot 1 zcy),?_,zn2 ok hφ p is q kk⟩
 have nd:(["_law_pot_here", "_law_many", "_law_left"]:List Str).Nodup:=by decide +kernel
 obtain ⟨fD,fdD,G,mD,kpD,bnD⟩:=d_law_draw.ex
 exact zba (zb9 (i:=2) nd rfl (by first | exact Or.inl rfl | exact Or.inr rfl) (zcs (zqy rfl) rfl B.list zjx (zas zm6 za6)))
  (zct (zf9 (ze9 PySem.F.plainAttrs_str PySem.F.slot_str_join PySem.F.type_str_join zmv zm6 (zas (zfm zp3 rfl B.sorted zf1 (zas
   (zok 1 (N' := ["_law_k", "_law_pot_here", "_law_many", "_law_left"]) (.of rfl (by kernel_rfl)) rfl (zkr rfl B.range (zas (zak (i:=1) rfl (by first | exact Or.inl rfl | exact Or.inr (Or.inl rfl) | exact Or.inr (Or.inr rfl))) za6))
    (fun C s H ex=>zg5 (of_decide_eq_true (by kernel_rfl)) rfl (by first | exact Or.inl rfl | exact Or.inr rfl) (by first | exact .inl rfl | exact .inr rfl)) (zhq (by decide)) (fun C s H ex=>zte)
    (fun C s H ex=>ze9 PySem.F.plainAttrs_list PySem.F.slot_list_pop PySem.F.type_list_pop zk0 (zak (i:=3) rfl (by first | exact Or.inl rfl | exact Or.inr (Or.inl rfl) | exact Or.inr (Or.inr rfl)))
     (zas (zgx (k:=1) (by exact G) (by exact hr) rfl mD kpD bnD .nil zli (zas (zak (i:=1) rfl (by first | exact Or.inl rfl | exact Or.inr (Or.inl rfl) | exact Or.inr (Or.inr rfl))) (zas (zfm zhk rfl B.len zmb (zas (zak (i:=3) rfl (by first | exact Or.inl rfl | exact Or.inr (Or.inl rfl) | exact Or.inr (Or.inr rfl))) za6)) za6))) za6))) za6)) za6))))
end
end L23
namespace L3
open PySem PySem.Spec
open PyProof.Rows hiding St
open L2
theorem zm1 {p q:Pc} {c:Nat} (h:pwB p q=true) (hc:c ∈ p.2):c ∈ q.2:=by
 unfold pwB covB at h
 simp only [Bool.or_eq_true,decide_eq_true_eq,Bool.and_eq_true,List.all_eq_true] at h
 rcases h with rfl | ⟨_,h⟩
 ·exact hc
 ·exact h c hc
theorem zs7 {p q:Pc} (h:pwB p q=true) (hp:p.1=true):q.1=true:=by
 unfold pwB covB at h
 simp only [Bool.or_eq_true,decide_eq_true_eq,Bool.and_eq_true] at h
 rcases h with rfl | ⟨h,_⟩
 ·exact hp
 ·exact h
theorem pw_sw {p q:Pc}:pwB p q=true↔p=q\/sw q p:=by
 unfold pwB
 rw [Bool.or_eq_true,cov_sw,decide_eq_true_eq]
theorem zuy {p q r:Pc} (h:pwB p q=true) (h':pwB q r=true):pwB p r=true:=by
 rw [pw_sw] at *
 rcases h with rfl | h
 ·exact h'
 ·rcases h' with rfl | h'
  ·exact .inr h
  ·exact .inr (h'.trans h)
structure Emb (one other:List Pc) (f:Nat->Nat):Prop where
 lt:∀ i,i<one.length->f i<other.length
 pw:∀ i p q,one[i]? = some p->other[f i]? = some q->pwB p q=true
 up:∀ i,i+1<one.length->f i<=f (i+1)
 st:∀ i q,i+1<one.length->other[f i]? = some q->q.1=false->f i<f (i+1)
theorem znt {other:List Pc}:∀ {one:List Pc} {st:Nat},pwi other one st=true->∃ f,Emb one other f/\∀ i,i<one.length->st<=f i
 | [],st,_=>⟨fun _=>0,⟨fun i h=>absurd h (Nat.not_lt_zero _),fun i p q h=>by simp at h,fun i h=>absurd h (by simp),fun i q h=>absurd h (by simp)⟩,fun i h=>absurd h (Nat.not_lt_zero _)⟩
 | p::one,st,h=>by
   rw [pwi] at h
   rcases zcf other st p with ⟨h1,_⟩ | ⟨i,hi,h1,h2,_,h3⟩
   ·rw [h1] at h;cases h
   ·rw [h3] at h
    obtain ⟨f,E,g⟩:=znt (one:=one) h
    refine ⟨fun j=>match j with | 0=>i | j+1=>f j,⟨fun j hj=>?_,fun j p' q hp hq=>?_,fun j hj=>?_,fun j q hj hq h0=>?_⟩,fun j hj=>?_⟩
    ·cases j with
     | zero=>exact hi
     | succ j=>exact E.lt j (by simpa using hj)
    ·cases j with
     | zero =>
       cases hp
       have:other[i]? = some q:=hq
       rw [List.getElem?_eq_getElem hi] at this
       cases this
       exact h2
     | succ j=>exact E.pw j p' q (by simpa using hp) hq
    ·cases j with
     | zero =>
       have:=g 0 (by simpa using hj)
       show i<=f 0
       split at this <;> lia
     | succ j=>exact E.up j (by simpa using hj)
    ·cases j with
     | zero =>
       have g0:=g 0 (by simpa using hj)
       have:other[i]? = some q:=hq
       rw [List.getElem?_eq_getElem hi] at this
       cases this
       rw [h0] at g0
       show i<f 0
       have:i+1<=f 0:=by simpa using g0
       lia
     | succ j=>exact E.st j q (by simpa using hj) hq h0
    ·cases j with
     | zero=>exact h1
     | succ j =>
       have:=g j (by simpa using hj)
       show st<=f j
       split at this <;> lia
theorem Emb.mono {one other:List Pc} {f:Nat->Nat} (E:Emb one other f) {i:Nat}:∀ {j:Nat},i<=j->j<one.length->f i<=f j:=by
 intro j
 induction j with
 | zero=>intro h _;rw [Nat.le_zero.mp h];exact Nat.le_refl _
 | succ j ih =>
   intro h hj
   by_cases e:i=j+1
   ·subst e;exact Nat.le_refl _
   ·exact Nat.le_trans (ih (by lia) (by lia)) (E.up j hj)
theorem Emb.comp {a b c:List Pc} {f g:Nat->Nat} (E:Emb a b f) (F:Emb b c g):Emb a c (fun i=>g (f i)):=by
 refine ⟨fun i hi=>F.lt _ (E.lt i hi),fun i p q hp hq=>?_,fun i hi=>F.mono (E.up i hi) (E.lt _ hi),fun i q hi hq h0=>?_⟩
 ·have hl:=(List.getElem?_eq_some_iff.mp hp).1
  have hb:=List.getElem?_eq_getElem (E.lt i hl)
  exact zuy (E.pw i p _ hp hb) (F.pw _ _ q hb hq)
 ·have l0:=E.lt i (by lia)
  have l1:=E.lt (i+1) hi
  have hb:=List.getElem?_eq_getElem l0
  by_cases e:f i<f (i+1)
  ·exact Nat.lt_of_lt_of_le (F.st (f i) q (by lia) hq h0) (F.mono e l1)
  ·exfalso
   have hup:=E.up i hi
   cases hq':(b[f i]).1 with
   | true =>
     have:=zs7 (F.pw _ _ q hb hq) hq'
     rw [h0] at this
     cases this
   | false =>
     exact e (E.st i _ hi hb hq')
theorem Emb.id {a:List Pc} {f:Nat->Nat} (E:Emb a a f) (pl:zdh a):∀ i,i<a.length->f i=i:=by
 have nb:∀ k,(h:k+1<a.length)->¬ sw a[k] a[k+1]/\¬ sw a[k+1] a[k]:=fun k h=>by
  refine pl (a.take k) a[k] a[k+1] (a.drop (k+2)) ?_
  rw [<- List.drop_eq_getElem_cons h,<- List.drop_eq_getElem_cons (by lia),List.take_append_drop]
 have ne:∀ {k:Nat} (h:k+1<a.length),a[k] ≠ a[k+1]\/(a[k]).1=false:=fun {k} h=>by
  by_cases e:a[k]=a[k+1]
  ·right
   cases c:(a[k]).1 with
   | false=>rfl
   | true =>
     exact absurd (show sw a[k] a[k+1] from ⟨c,fun x hx=>by rw [e];exact hx⟩) (nb k h).1
  ·exact .inl e
 -- none goes up
 have up:∀ i,i<a.length->f i<=i:=by
  have key:∀ m i,a.length - i=m->i<a.length->i<f i->False:=by
   intro m
   induction m with
   | zero=>intro i h1 h2;lia
   | succ m ih =>
     intro i h1 h2 h3
     have hl:=E.lt i h2
     have h4:i+1<a.length:=by lia
     by_cases c:i+1<f (i+1)
     ·exact ih (i+1) (by lia) h4 c
     ·have u:=E.up i h4
      have e1:f i=i+1:=by lia
      have g1:a[f i]? = some a[i+1]:=by rw [e1];exact List.getElem?_eq_getElem h4
      cases c2:(a[i+1]).1 with
      | false =>
        have:=E.st i _ h4 g1 c2
        lia
      | true =>
        rcases pw_sw.mp (E.pw i a[i] a[i+1] (List.getElem?_eq_getElem h2) g1) with e | e
        ·rcases ne h4 with z | z
         ·exact z e
         ·rw [e,c2] at z;cases z
        ·exact (nb i h4).2 e
  intro i hi
  exact Nat.le_of_not_lt fun z=>key _ i rfl hi z
 have dn:∀ i,i<a.length->i<=f i:=by
  intro i
  induction i with
  | zero=>intro _;exact Nat.zero_le _
  | succ i ih =>
    intro hi
    have h1:=ih (by lia)
    have h2:=up i (by lia)
    have u:=E.up i hi
    refine Nat.le_of_not_lt fun z=>?_
    have e1:f i=i:=by lia
    have e2:f (i+1)=i:=by lia
    have g1:a[f i]? = some (a[i]'(by lia)):=by rw [e1];exact List.getElem?_eq_getElem (by lia)
    have g2:a[f (i+1)]? = some (a[i]'(by lia)):=by rw [e2];exact List.getElem?_eq_getElem (by lia)
    cases c2:(a[i]'(by lia)).1 with
    | false =>
      have:=E.st i _ hi g1 c2
      lia
    | true =>
      rcases pw_sw.mp (E.pw (i+1) a[i+1] (a[i]'(by lia)) (List.getElem?_eq_getElem hi) g2) with e | e
      ·rcases ne hi with z | z
       ·exact z e.symm
       ·rw [c2] at z;cases z
      ·exact (nb i hi).1 e
 exact fun i hi=>Nat.le_antisymm (up i hi) (dn i hi)
theorem zp2 {a b:List Pc} (pa:zdh a) (pb:zdh b) (ra:∀ p ∈ a,p.2.Pairwise (· < ·)) (rb:∀ p ∈ b,p.2.Pairwise (· < ·)) (h1:pwi b a 0=true) (h2:pwi a b 0=true):a=b:=by
 obtain ⟨f,E,_⟩:=znt h1
 obtain ⟨g,F,_⟩:=znt h2
 have i1:=(E.comp F).id pa
 have i2:=(F.comp E).id pb
 have fi:∀ i,i<a.length->i<=f i:=by
  intro i
  induction i with
  | zero=>intro _;exact Nat.zero_le _
  | succ i ih =>
    intro hi
    have h1:=ih (by lia)
    have u:=E.up i hi
    refine Nat.lt_of_le_of_lt h1 (Nat.lt_of_le_of_ne u fun z=>?_)
    have e1:=i1 i (by lia)
    have e2:=i1 (i+1) hi
    rw [z] at e1
    lia
 have gi:∀ i,i<b.length->i<=g i:=by
  intro i
  induction i with
  | zero=>intro _;exact Nat.zero_le _
  | succ i ih =>
    intro hi
    have h1:=ih (by lia)
    have u:=F.up i hi
    refine Nat.lt_of_le_of_lt h1 (Nat.lt_of_le_of_ne u fun z=>?_)
    have e1:=i2 i (by lia)
    have e2:=i2 (i+1) hi
    rw [z] at e1
    lia
 have fid:∀ i,i<a.length->f i=i:=fun i hi=>by
  have h1:=fi i hi
  have h2:=gi (f i) (E.lt i hi)
  have h3:=i1 i hi
  lia
 have gid:∀ i,i<b.length->g i=i:=fun i hi=>by
  have h1:=gi i hi
  have h2:=fi (g i) (F.lt i hi)
  have h3:=i2 i hi
  lia
 have hl:a.length=b.length:=by
  refine Nat.le_antisymm (Nat.le_of_not_lt fun z=>?_) (Nat.le_of_not_lt fun z=>?_)
  ·have:=E.lt b.length z
   rw [fid _ z] at this
   lia
  ·have:=F.lt a.length z
   rw [gid _ z] at this
   lia
 refine List.ext_getElem hl fun i ha hb=>?_
 have p1:=E.pw i a[i] b[i] (List.getElem?_eq_getElem ha) (by rw [fid i ha];exact List.getElem?_eq_getElem hb)
 have p2:=F.pw i b[i] a[i] (List.getElem?_eq_getElem hb) (by rw [gid i hb];exact List.getElem?_eq_getElem ha)
 rcases pw_sw.mp p1 with e | e
 ·exact e
 ·rcases pw_sw.mp p2 with e2 | e2
  ·exact e2.symm
  ·exact zqi (ra _ (List.getElem_mem ha)) (rb _ (List.getElem_mem hb)) e2 e
theorem zzn {o:List Pc} {p:List Pc} {w:List Nat} (m:Mem p w):∀ {st:Nat},pwi o p st=true->Mem (o.drop st) w:=by
 induction m with
 | nil=>exact fun _ => .empty _
 | @skip x r w m ih =>
   intro st h
   rw [pwi] at h
   rcases zcf o st x with ⟨h1,_⟩ | ⟨i,hi,h1,h2,_,h3⟩
   ·rw [h1] at h;cases h
   ·rw [h3] at h
    refine Mem.drop (j:=if o[i].1 then i else i+1) (by split <;> lia) (ih h)
 | @one x r c w hx hc m ih =>
   intro st h
   rw [pwi] at h
   rcases zcf o st x with ⟨h1,_⟩ | ⟨i,hi,h1,h2,_,h3⟩
   ·rw [h1] at h;cases h
   ·rw [h3] at h
    have:=ih h
    refine Mem.drop h1 ?_
    rw [List.drop_eq_getElem_cons hi]
    cases c2:o[i].1 with
    | true =>
      rw [c2,if_pos rfl,List.drop_eq_getElem_cons hi] at this
      exact .any c2 (zm1 h2 hc) this
    | false =>
      rw [c2,if_neg Bool.false_ne_true] at this
      exact .one c2 (zm1 h2 hc) this
 | @any x r c w hx hc m ih =>
   intro st h
   have h':=h
   rw [pwi] at h
   rcases zcf o st x with ⟨h1,_⟩ | ⟨i,hi,h1,h2,h4,h3⟩
   ·rw [h1] at h;cases h
   ·have oi:=zs7 h2 hx
    rw [h3,oi,if_pos rfl] at h
    have hpi:pwi o (x::r) i=true:=by
     rw [pwi]
     rcases zcf o i x with ⟨_,k2⟩ | ⟨j,hj,k1,k2,k4,k3⟩
     ·have:=k2 i hi (Nat.le_refl _)
      rw [h2] at this
      cases this
     ·have:j=i:=Nat.le_antisymm (Nat.le_of_not_lt fun z=>by
       have:=k4 i z (Nat.le_refl _)
       rw [h2] at this
       cases this) k1
      subst this
      rw [k3,oi,if_pos rfl]
      exact h
    have:=ih hpi
    refine Mem.drop h1 ?_
    rw [List.drop_eq_getElem_cons hi] at this ⊢
    exact .any oi (zm1 h2 hc) this
theorem zb0 {p o:List Pc} (wp:WfPr p) (wo:WfPr o):za0 p o=true↔∀ w,Mem p w->Mem o w:=by
 constructor
 ·intro h w m
  rw [<- zbw wp wo] at h
  exact zzn m h
 ·intro h
  exact (zbb wo).mpr (h _ (ze5 wp.all))
theorem zh9 {a b:List Pc} (wa:WfPr a) (wb:WfPr b) (pa:zdh a) (pb:zdh b) (ra:∀ p ∈ a,p.2.Pairwise (· < ·)) (rb:∀ p ∈ b,p.2.Pairwise (· < ·)) (h1:za0 a b=true) (h2:za0 b a=true):a=b :=
 zp2 pa pb ra rb (by rw [zbw wa wb];exact h1) (by rw [zbw wb wa];exact h2)
end L3
namespace L3
open PySem PySem.Spec
open PyProof.Rows hiding St
open L2 HK
theorem zhb {F:PyData->Prop} (T:TO F):∀ {xs ys:List PyData},(∀ x ∈ xs,F x)->(∀ y ∈ ys,F y)->xs.Pairwise (fun a b=>dlt a b=true)->ys.Pairwise (fun a b=>dlt a b=true)->(∀ d,d ∈ xs↔d ∈ ys)->xs=ys
 | [],[],_,_,_,_,_=>rfl
 | [],y::ys,_,_,_,_,h=>absurd ((h y).mpr (by simp)) (by simp)
 | x::xs,[],_,_,_,_,h=>absurd ((h x).mp (by simp)) (by simp)
 | x::xs,y::ys,fx,fy,px,py,h=>by
   obtain ⟨px1,px2⟩:=List.pairwise_cons.mp px
   obtain ⟨py1,py2⟩:=List.pairwise_cons.mp py
   have hx:=fx x (by simp)
   have hy:=fy y (by simp)
   have e:x=y:=by
    rcases List.mem_cons.mp ((h x).mp (by simp)) with e | e
    ·exact e
    ·rcases List.mem_cons.mp ((h y).mpr (by simp)) with e2 | e2
     ·exact e2.symm
     ·have:=T.tr x y x hx hy hx (px1 y e2) (py1 x e)
      rw [T.irr x hx] at this
      cases this
   subst e
   congr 1
   refine zhb T (fun z hz=>fx z (List.mem_cons_of_mem _ hz)) (fun z hz=>fy z (List.mem_cons_of_mem _ hz)) px2 py2 fun d=>?_
   constructor
   ·intro hd
    rcases List.mem_cons.mp ((h d).mp (List.mem_cons_of_mem _ hd)) with e | e
    ·subst e
     have:=px1 d hd
     rw [T.irr d hx] at this
     cases this
    ·exact e
   ·intro hd
    rcases List.mem_cons.mp ((h d).mpr (List.mem_cons_of_mem _ hd)) with e | e
    ·subst e
     have:=py1 d hd
     rw [T.irr d hx] at this
     cases this
    ·exact e
theorem zfo {α β:Type} {f:α->β} (hf:∀ a b,f a=f b->a=b):∀ {xs ys:List α},xs.map f=ys.map f->xs=ys
 | [],[],_=>rfl
 | [],_::_,h=>by cases h
 | _::_,[],h=>by cases h
 | x::xs,y::ys,h=>by
   rw [List.map_cons,List.map_cons] at h
   injection h with h1 h2
   rw [hf x y h1,zfo hf h2]
noncomputable abbrev shPr:Sh := .arr (.fcons .t (.fcons .t .fnil))
theorem zb8 (ps:List Pc):HasSh shPr (zaf ps):=⟨ps.map encP,rfl,fun d hd=>by
 obtain ⟨p,_,rfl⟩:=List.mem_map.mp hd
 exact ⟨_,_,rfl,⟨_,rfl⟩,_,_,rfl,⟨_,rfl⟩,rfl⟩⟩
theorem zxn {ps:List Pc} (h:∀ p ∈ ps,LowP p):TupK (zaf ps):=by
 refine ⟨⟨_,rfl⟩,sh_hk shPr _ (zb8 ps),zgh h,Nat.le_trans (zhf ps) (by decide),fun z=>?_⟩
 cases ps with
 | nil=>rfl
 | cons p ps=>cases z
theorem zer {a b:List Pc} (h:zaf a=zaf b):a=b:=by
 have:PyData.eqv (zaf a) (zaf b)=true:=(zgk (zb8 a) (zb8 b)).mpr h
 rw [zkv] at this
 exact of_decide_eq_true this
structure RP (pr:List Pc):Prop where
 wf:WfPr pr
 ri:∀ p ∈ pr,p.2.Pairwise (· < ·)
theorem RP.stack {pr:List Pc} (h:RP pr):RP (zbx pr):=⟨⟨fun p hp=>h.wf.all p ((zdk pr).subset hp),Nat.le_trans (zdk pr).length_le h.wf.len⟩,fun p hp=>h.ri p ((zdk pr).subset hp)⟩
structure Srt (es zs:List (List Pc)):Prop where
 nd:zs.Nodup
 mem:∀ p,p ∈ zs↔p ∈ es.map zbx
 up:(zs.map zaf).Pairwise (fun a b=>dlt a b=true)
noncomputable def zce (zs:List (List Pc)) (p:List Pc):Bool:=zs.any fun o=>!decide (o=p) && za0 p o
noncomputable def zi2 (zs:List (List Pc)):List (List Pc):=zs.filter fun p=>!zce zs p
noncomputable def PlainE (es rs:List (List Pc)):Prop:=∃ zs,Srt es zs/\rs=zi2 zs
theorem zo9 {α:Type} {q r:α->Bool}:∀ {l:List α},(∀ x ∈ l,q x=true->r x=true)->(∃ x ∈ l,q x=false/\r x=true)->(l.filter q).length<(l.filter r).length
 | [],_,h=>by obtain ⟨x,hx,_⟩:=h;cases hx
 | a::l,h1,h2=>by
   have le:(l.filter q).length<=(l.filter r).length:=by
    have go:∀ {l:List α},(∀ x ∈ l,q x=true->r x=true)->(l.filter q).length<=(l.filter r).length:=by
     intro l
     induction l with
     | nil=>intro _;exact Nat.le_refl _
     | cons a l ih =>
       intro h
       have:=ih fun x hx=>h x (List.mem_cons_of_mem _ hx)
       rw [List.filter_cons,List.filter_cons]
       cases c:q a with
       | true=>rw [h a (by simp) c];simp;exact this
       | false =>
         simp only [Bool.false_eq_true,if_false]
         split
         ·simp;lia
         ·exact this
    exact go fun x hx=>h1 x (List.mem_cons_of_mem _ hx)
   rw [List.filter_cons,List.filter_cons]
   obtain ⟨x,hx,c1,c2⟩:=h2
   rcases List.mem_cons.mp hx with rfl | hx
   ·rw [c1,c2]
    simp
    lia
   ·have:=zo9 (l:=l) (fun x hx=>h1 x (List.mem_cons_of_mem _ hx)) ⟨x,hx,c1,c2⟩
    cases c:q a with
    | true=>rw [h1 a (by simp) c];simp;exact this
    | false =>
      simp only [Bool.false_eq_true,if_false]
      split
      ·simp;lia
      ·exact this
section
variable {zs : List (List Pc)} (rp : ∀ p ∈ zs, RP p) (pl : ∀ p ∈ zs, zdh p)
include rp pl
theorem z4c (n:Nat):∀ p ∈ zs,(zs.filter fun o=>!decide (o=p) && za0 p o).length=n->∃ r ∈ zi2 zs,∀ w,Mem p w->Mem r w:=by
 induction n using Nat.strongRecOn with
 | ind n ih =>
   intro p hp hn
   by_cases h:zce zs p=true
   ·obtain ⟨o,ho,h2⟩:=List.any_eq_true.mp h
    simp only [Bool.and_eq_true,Bool.not_eq_true',decide_eq_false_iff_not] at h2
    have hpo:=(zb0 (rp p hp).wf (rp o ho).wf).mp h2.2
    have hlt:(zs.filter fun x=>!decide (x=o) && za0 o x).length<n:=by
     rw [<- hn]
     refine zo9 (fun x hx hq=>?_) ⟨o,ho,by simp,by simp [h2.1,h2.2]⟩
     simp only [Bool.and_eq_true,Bool.not_eq_true',decide_eq_false_iff_not] at hq ⊢
     have hox:=(zb0 (rp o ho).wf (rp x hx).wf).mp hq.2
     have hpx:za0 p x=true:=(zb0 (rp p hp).wf (rp x hx).wf).mpr fun w m=>hox w (hpo w m)
     refine ⟨fun e=>?_,hpx⟩
     subst e
     exact h2.1 (zh9 (rp o ho).wf (rp x hx).wf (pl o ho) (pl x hx) (rp o ho).ri (rp x hx).ri hq.2 h2.2)
    obtain ⟨r,hr,h3⟩:=ih _ hlt o ho rfl
    exact ⟨r,hr,fun w m=>h3 w (hpo w m)⟩
   ·exact ⟨p,List.mem_filter.mpr ⟨hp,by simpa using h⟩,fun w m=>m⟩
end
section
variable {es zs : List (List Pc)} (re : ∀ p ∈ es, RP p) (S : Srt es zs)
include re S
theorem Srt.rp:∀ p ∈ zs,RP p:=fun p hp=>by
 obtain ⟨q,hq,rfl⟩:=List.mem_map.mp ((S.mem p).mp hp)
 exact (re q hq).stack
omit re in
theorem Srt.pl:∀ p ∈ zs,zdh p:=fun p hp=>by
 obtain ⟨q,hq,rfl⟩:=List.mem_map.mp ((S.mem p).mp hp)
 exact zoe q
theorem zqf (w:List Nat):((zi2 zs).any fun p=>hasB p w)=es.any fun p=>hasB p w:=by
 have rpz:=S.rp re
 rw [Bool.eq_iff_iff,List.any_eq_true,List.any_eq_true]
 constructor
 ·rintro ⟨p,hp,h⟩
  have hz:=(List.mem_filter.mp hp).1
  obtain ⟨q,hq,rfl⟩:=List.mem_map.mp ((S.mem p).mp hz)
  refine ⟨q,hq,?_⟩
  rw [zbb (rpz _ hz).wf,stack_mem] at h
  exact (zbb (re q hq).wf).mpr h
 ·rintro ⟨q,hq,h⟩
  have hz:zbx q ∈ zs:=(S.mem _).mpr (List.mem_map.mpr ⟨q,hq,rfl⟩)
  obtain ⟨r,hr,h2⟩:=z4c rpz S.pl _ _ hz rfl
  refine ⟨r,hr,?_⟩
  have hrz:=(List.mem_filter.mp hr).1
  rw [zbb (re q hq).wf] at h
  exact (zbb (rpz r hrz).wf).mpr (h2 w (stack_mem.mpr h))
omit re in
end
end L3
namespace L3
open PySem PySem.Spec
open PyProof.Rows hiding St
open L2 HK
noncomputable def wds (es:List (List Pc)) (w:List Nat):Prop:=∃ p ∈ es,Mem p w
section
variable {es rs : List (List Pc)}
theorem PlainE.wds (re:∀ p ∈ es,RP p) (h:PlainE es rs) (w:List Nat):L3.wds rs w↔L3.wds es w:=by
 obtain ⟨zs,S,rfl⟩:=h
 have k:=zqf re S w
 rw [Bool.eq_iff_iff,List.any_eq_true,List.any_eq_true] at k
 have rp:=S.rp re
 constructor
 ·rintro ⟨p,hp,m⟩
  obtain ⟨q,hq,m2⟩:=k.mp ⟨p,hp,(zbb (rp p (List.mem_filter.mp hp).1).wf).mpr m⟩
  exact ⟨q,hq,(zbb (re q hq).wf).mp m2⟩
 ·rintro ⟨p,hp,m⟩
  obtain ⟨q,hq,m2⟩:=k.mpr ⟨p,hp,(zbb (re p hp).wf).mpr m⟩
  exact ⟨q,hq,(zbb (rp q (List.mem_filter.mp hq).1).wf).mp m2⟩
theorem PlainE.rp (re:∀ p ∈ es,RP p) (h:PlainE es rs):∀ p ∈ rs,RP p/\zdh p:=by
 obtain ⟨zs,S,rfl⟩:=h
 exact fun p hp=>⟨S.rp re p (List.mem_filter.mp hp).1,S.pl p (List.mem_filter.mp hp).1⟩
theorem Srt.len {zs:List (List Pc)} (S:Srt es zs):zs.length<=es.length:=by
 have h4:zs.length<=(es.map zbx).length:=TB.len_nd S.nd fun k hk=>(S.mem k).mp hk
 rw [List.length_map] at h4
 exact h4
theorem PlainE.len (h:PlainE es rs):rs.length<=es.length:=by
 obtain ⟨zs,S,rfl⟩:=h
 exact Nat.le_trans (List.length_filter_le _ _) S.len
end
noncomputable def Norm (rs:List (List Pc)):Prop:=∃ es,(∀ e ∈ es,RP e)/\PlainE es rs
theorem Norm.rp {rs:List (List Pc)} (h:Norm rs):∀ p ∈ rs,RP p/\zdh p:=let ⟨_,a,b⟩:=h;b.rp a
theorem zo7 {rs rs':List (List Pc)} (h:Norm rs) (h':Norm rs') (e:∀ w,wds rs w↔wds rs' w):∀ p ∈ rs,∃ q ∈ rs',∀ w,Mem p w->Mem q w:=by
 intro p hp
 obtain ⟨rp,pp⟩:=h.rp p hp
 obtain ⟨q,hq,m⟩:=(e (zbu p 101)).mp ⟨p,hp,ze5 rp.wf.all⟩
 refine ⟨q,hq,?_⟩
 have rq:=(h'.rp q hq).1.wf
 have hb:=(zbb rq).mpr m
 unfold hasB at hb
 rw [<- zdi rq (n:=101) (by have:=rq.len;lia) rp.wf.all (Nat.zero_le _),zbw rp.wf rq] at hb
 exact (zb0 rp.wf rq).mp hb
theorem zmo {rs rs':List (List Pc)} (h:Norm rs) (h':Norm rs') (e:∀ w,wds rs w↔wds rs' w):∀ p ∈ rs,p ∈ rs':=by
 intro p hp
 obtain ⟨rp,pp⟩:=h.rp p hp
 obtain ⟨q,hq,s1⟩:=zo7 h h' e p hp
 obtain ⟨rq,pq⟩:=h'.rp q hq
 obtain ⟨p',hp',s2⟩:=zo7 h' h (fun w=>(e w).symm) q hq
 obtain ⟨rp',pp'⟩:=h.rp p' hp'
 have u:za0 p p'=true:=(zb0 rp.wf rp'.wf).mpr fun w m=>s2 w (s1 w m)
 have ep:p'=p:=by
  obtain ⟨es,re,zs,S,rfl⟩:=h
  have hp2:=List.mem_filter.mp hp
  have no:zce zs p=false:=by simpa using hp2.2
  unfold zce at no
  rw [List.any_eq_false] at no
  have:=no p' (List.mem_filter.mp hp').1
  simp only [u,Bool.and_true,Bool.not_eq_true',decide_eq_false_iff_not,Classical.not_not] at this
  exact this
 subst ep
 rw [zh9 rp.wf rq.wf pp pq rp.ri rq.ri ((zb0 rp.wf rq.wf).mpr s1) ((zb0 rq.wf rp.wf).mpr s2)]
 exact hq
theorem zkf {rs rs':List (List Pc)} (h:Norm rs) (h':Norm rs') (e:∀ w,wds rs w↔wds rs' w):rs=rs':=by
 have m:∀ p,p ∈ rs↔p ∈ rs':=fun p=>⟨zmo h h' e p,zmo h' h (fun w=>(e w).symm) p⟩
 obtain ⟨es,re,zs,S,rfl⟩:=h
 obtain ⟨es',re',zs',S',rfl⟩:=h'
 have:=zhb (zgo shPr) (xs:=(zi2 zs).map zaf) (ys:=(zi2 zs').map zaf) (fun x hx=>by
  obtain ⟨p,_,rfl⟩:=List.mem_map.mp hx
  exact zb8 p) (fun x hx=>by
  obtain ⟨p,_,rfl⟩:=List.mem_map.mp hx
  exact zb8 p) (S.up.sublist (List.filter_sublist.map _)) (S'.up.sublist (List.filter_sublist.map _)) fun d=>by
  rw [List.mem_map,List.mem_map]
  constructor
  ·rintro ⟨p,hp,rfl⟩
   exact ⟨p,(m p).mp hp,rfl⟩
  ·rintro ⟨p,hp,rfl⟩
   exact ⟨p,(m p).mpr hp,rfl⟩
 exact zfo (fun a b e=>zer e) this
end L3
namespace L3
open PySem PySem.Spec
open PyProof.Rows hiding St
open L2 L6
noncomputable def zb4 (es:List (List Pc)) (c:Nat):List (List Pc):=es.filterMap fun p=>(pb p 0 (false,[c])).map fun i=>p.drop i
theorem zgs {p:List Pc} (wf:WfPr p) {w u:List Nat}:Mem p (w++u)↔∃ q,runL p w 0=some q/\Mem (p.drop q) u:=by
 have h:=zg1 wf (w:=w++u) (st:=0)
 rw [List.drop_zero] at h
 rw [<- h]
 have e:mbs (w++u)=mbs w++mbs u:=zop w u
 rw [e,zjh]
 cases runL p w 0 with
 | none=>exact ⟨fun z=>(by cases z),fun ⟨q,z,_⟩=>(by cases z)⟩
 | some q =>
   show pwi p (mbs u) q=true↔_
   rw [zg1 wf]
   exact ⟨fun z=>⟨q,rfl,z⟩,fun ⟨q',e,z⟩=>by cases e;exact z⟩
noncomputable def posV (p:List Pc) (w:List Nat):Nat:=(runL p w 0).getD (p.length+1)
theorem zoq {p:List Pc} (wf:WfPr p) (w:List Nat):posV p w<=p.length+1:=by
 unfold posV
 cases h:runL p w 0 with
 | none=>exact Nat.le_refl _
 | some q=>exact Nat.le_succ_of_le (zch wf (Nat.zero_le _) h)
theorem zo1 {p:List Pc} (wf:WfPr p) {w w':List Nat} (e:posV p w=posV p w'):runL p w 0=runL p w' 0:=by
 unfold posV at e
 cases h:runL p w 0 with
 | none =>
   cases h':runL p w' 0 with
   | none=>rfl
   | some q =>
     rw [h,h'] at e
     have:=zch wf (Nat.zero_le _) h'
     simp at e
     lia
 | some q =>
   have:=zch wf (Nat.zero_le _) h
   cases h':runL p w' 0 with
   | none =>
     rw [h,h'] at e
     simp at e
     lia
   | some q' =>
     rw [h,h'] at e
     exact congrArg some e
theorem zgp {rs:List (List Pc)} (wf:∀ p ∈ rs,WfPr p) {w w':List Nat} (e:∀ p ∈ rs,posV p w=posV p w') (u:List Nat):wds rs (w++u)↔wds rs (w'++u):=by
 constructor
 ·rintro ⟨p,hp,m⟩
  refine ⟨p,hp,?_⟩
  rw [zgs (wf p hp)] at m ⊢
  rw [<- zo1 (wf p hp) (e p hp)]
  exact m
 ·rintro ⟨p,hp,m⟩
  refine ⟨p,hp,?_⟩
  rw [zgs (wf p hp)] at m ⊢
  rw [zo1 (wf p hp) (e p hp)]
  exact m
theorem zvf {es:List (List Pc)} (wf:∀ p ∈ es,WfPr p) (c:Nat) (u:List Nat):wds (zb4 es c) u↔wds es (c::u):=by
 have r1:∀ p:List Pc,runL p [c] 0=pb p 0 (false,[c]):=fun p=>by
  show (match pb p 0 (false,[c]) with | none=>none | some q=>runL p [] q)=_
  cases pb p 0 (false,[c]) <;> rfl
 constructor
 ·rintro ⟨p,hp,m⟩
  obtain ⟨q,hq,e⟩:=List.mem_filterMap.mp hp
  obtain ⟨i,hi,rfl⟩:=Option.map_eq_some_iff.mp e
  exact ⟨q,hq,(zgs (wf q hq) (w := [c]) (u:=u)).mpr ⟨i,by rw [r1,hi],m⟩⟩
 ·rintro ⟨p,hp,m⟩
  obtain ⟨i,hi,m2⟩:=(zgs (wf p hp) (w := [c]) (u:=u)).mp m
  rw [r1] at hi
  exact ⟨p.drop i,List.mem_filterMap.mpr ⟨p,hp,by rw [hi];rfl⟩,m2⟩
theorem RP.drp {p:List Pc} (h:RP p) (i:Nat):RP (p.drop i):=⟨⟨fun x hx=>h.wf.all x (List.mem_of_mem_drop hx),by rw [List.length_drop];have:=h.wf.len;lia⟩,fun x hx=>h.ri x (List.mem_of_mem_drop hx)⟩
theorem zyt {es:List (List Pc)} {c:Nat} (h:∀ e ∈ es,RP e):∀ e ∈ zb4 es c,RP e:=fun e he=>by
 obtain ⟨p,hp,e2⟩:=List.mem_filterMap.mp he
 obtain ⟨i,_,rfl⟩:=Option.map_eq_some_iff.mp e2
 exact (h p hp).drp i
structure LR (rs:List (List Pc)) (w:List Nat) (l:List (List Pc)):Prop where
 nm:Norm l
 wd:∀ u,wds l u↔wds rs (w++u)
 ln:l.length<=rs.length
theorem LR.rp {rs l:List (List Pc)} {w:List Nat} (h:LR rs w l):∀ p ∈ l,RP p:=fun p hp=>(h.nm.rp p hp).1
theorem LR.start {es rs:List (List Pc)} (re:∀ e ∈ es,RP e) (h:PlainE es rs):LR es [] rs:=⟨⟨es,re,h⟩,fun u=>h.wds re u,h.len⟩
theorem LR.step {rs l l':List (List Pc)} {w:List Nat} {c:Nat} (h:LR rs w l) (h':PlainE (zb4 l c) l'):LR rs (w ++ [c]) l':=by
 have re:=zyt (c:=c) h.rp
 refine ⟨⟨_,re,h'⟩,fun u=>?_,?_⟩
 ·rw [h'.wds re u,zvf fun p hp=>(h.rp p hp).wf,h.wd,List.append_assoc]
  rfl
 ·exact Nat.le_trans h'.len (Nat.le_trans (List.length_filterMap_le _ _) h.ln)
theorem LR.uniq {rs l l':List (List Pc)} {w w':List Nat} (h:LR rs w l) (h':LR rs w' l') (e:∀ u,wds rs (w++u)↔wds rs (w'++u)):l=l' :=
 zkf h.nm h'.nm fun u=>(h.wd u).trans ((e u).trans (h'.wd u).symm)
theorem LR.same {rs rs' l l':List (List Pc)} {w w':List Nat} (h:LR rs w l) (h':LR rs' w' l'):l=l'↔∀ u,wds rs (w++u)↔wds rs' (w'++u):=by
 constructor
 ·rintro rfl
  exact fun u=>(h.wd u).symm.trans (h'.wd u)
 ·exact fun e=>zkf h.nm h'.nm fun u=>(h.wd u).trans ((e u).trans (h'.wd u).symm)
theorem LR.none {rs l:List (List Pc)} {w:List Nat} (h:LR rs w l):l = []↔¬ wds rs w:=by
 have:=h.wd []
 rw [List.append_nil] at this
 rw [<- this]
 constructor
 ·rintro rfl ⟨p,hp,_⟩
  cases hp
 ·intro n
  cases l with
  | nil=>rfl
  | cons p l=>exact absurd ⟨p,by simp,.empty _⟩ n
noncomputable def zay (es fs:List (List Pc)) (w:List Nat):Prop:=¬ (wds es w↔wds fs w)
noncomputable def zbi (P:List Nat->Prop) (W:List Nat):Prop:=P W/\∀ u,P u->wlt u W=false
theorem zpo {P:Nat->Prop}:∀ {n:Nat},P n->∃ m,P m/\∀ k,P k->m<=k:=by
 intro n
 induction n using Nat.strongRecOn with
 | ind n ih =>
   intro h
   by_cases z:∃ k,k<n/\P k
   ·obtain ⟨k,hk,pk⟩:=z
    exact ih k hk pk
   ·exact ⟨n,h,fun k pk=>Nat.le_of_not_lt fun q=>z ⟨k,q,pk⟩⟩
theorem zky:∀ (n:Nat) {P:List Nat->Prop},(∃ v,v.length=n/\P v)->∃ v,v.length=n/\P v/\∀ u,u.length=n->P u->¬ u<v
 | 0,P,⟨v,h,p⟩=>⟨v,h,p,fun u hu _=>by
  rw [List.eq_nil_of_length_eq_zero h]
  exact List.not_lt_nil u⟩
 | n+1,P,⟨v,h,p⟩=>by
   obtain ⟨c,t,rfl⟩:∃ c t,v=c::t:=by cases v with | nil=>cases h | cons c t=>exact ⟨c,t,rfl⟩
   obtain ⟨m,⟨t2,ht2,p2⟩,hm⟩:=zpo (P:=fun c=>∃ t:List Nat,t.length=n/\P (c::t)) ⟨t,by simpa using h,p⟩
   obtain ⟨t3,ht3,p3,h3⟩:=zky n (P:=fun t=>P (m::t)) ⟨t2,ht2,p2⟩
   refine ⟨m::t3,by simp [ht3],p3,fun u hu pu lt=>?_⟩
   obtain ⟨d,s,rfl⟩:∃ d s,u=d::s:=by cases u with | nil=>cases hu | cons d s=>exact ⟨d,s,rfl⟩
   have hs:s.length=n:=by simpa using hu
   have:=hm d ⟨s,hs,pu⟩
   rw [List.cons_lt_cons_iff] at lt
   rcases lt with z | ⟨rfl,z⟩
   ·lia
   ·exact h3 s hs pu z
theorem zfb {P:List Nat->Prop} (h:∃ v,P v):∃ W,zbi P W:=by
 obtain ⟨v,p⟩:=h
 obtain ⟨n,hn,h2⟩:=zpo (P:=fun n=>∃ v:List Nat,v.length=n/\P v) ⟨v,rfl,p⟩
 obtain ⟨W,h3,h4,h5⟩:=zky n hn
 refine ⟨W,h4,fun u pu=>?_⟩
 cases z:wlt u W with
 | false=>rfl
 | true =>
   rw [wlt_iff] at z
   have:=h2 u.length ⟨u,rfl,pu⟩
   rcases z with z | ⟨z,z2⟩
   ·lia
   ·exact absurd z2 (h5 u (by lia) pu)
theorem zji:∀ {a b:List Nat},a.length=b.length->a<b->∀ (s t:List Nat),a++s<b++t
 | [],[],_,h,_,_=>absurd h (List.lt_irrefl _)
 | [],_::_,h,_,_,_=>by cases h
 | _::_,[],h,_,_,_=>by cases h
 | x::a,y::b,h,lt,s,t=>by
   rw [List.cons_append,List.cons_append,List.cons_lt_cons_iff]
   rw [List.cons_lt_cons_iff] at lt
   rcases lt with z | ⟨rfl,z⟩
   ·exact .inl z
   ·exact .inr ⟨rfl,zji (by simpa using h) z s t⟩
theorem zxg {a b:List Nat} (h:wlt a b=true) (s:List Nat):wlt (a++s) (b++s)=true:=by
 rw [wlt_iff] at h ⊢
 rw [List.length_append,List.length_append]
 rcases h with z | ⟨z,z2⟩
 ·left;lia
 ·exact .inr ⟨by lia,zji z z2 s s⟩
theorem zni {a b:List Nat} (h:a.length=b.length) (lt:wlt a b=true) (c d:Nat):wlt (a ++ [c]) (b ++ [d])=true:=by
 rw [wlt_iff] at lt ⊢
 rcases lt with z | ⟨_,z2⟩
 ·lia
 ·exact .inr ⟨by simp [h],zji h z2 _ _⟩
theorem zn3 (a:List Nat) {c d:Nat} (h:c<d):wlt (a ++ [c]) (a ++ [d])=true:=by
 rw [wlt_iff]
 refine .inr ⟨by simp,?_⟩
 induction a with
 | nil=>rw [List.nil_append,List.nil_append,List.cons_lt_cons_iff];exact .inl h
 | cons x a ih=>rw [List.cons_append,List.cons_append,List.cons_lt_cons_iff];exact .inr ⟨rfl,ih⟩
theorem znd {P:List Nat->Prop} {u w s:List Nat} (h:zbi P (w++s)) (lt:wlt u w=true) (e:P (w++s)->P (u++s)):False:=by
 have:=h.2 _ (e h.1)
 rw [zxg lt s] at this
 cases this
theorem zpz {P:List Nat->Prop} {u w:List Nat} (h:zbi P u) (h':zbi P w):u=w:=zx9 _ _ (h'.2 _ h.1) (h.2 _ h'.1)
theorem zl4 {α β:Type} [DecidableEq β] {R:β->α->Prop} (hR:∀ v k k',R v k->R v k'->k=k'):∀ {ks:List α} {vs:List β},ks.Nodup->(∀ k ∈ ks,∃ v ∈ vs,R v k)->ks.length<=vs.length
 | [],_,_,_=>Nat.zero_le _
 | k::ks,vs,nd,h=>by
   obtain ⟨v,hv,r⟩:=h k (by simp)
   have n1:=List.nodup_cons.mp nd
   have:=zl4 hR (vs:=vs.erase v) n1.2 fun k' hk'=>by
    obtain ⟨v',hv',r'⟩:=h k' (List.mem_cons_of_mem _ hk')
    refine ⟨v',(List.mem_erase_of_ne fun e=>?_).mpr hv',r'⟩
    subst e
    exact n1.1 (hR _ _ _ r r' ▸ hk')
   rw [List.length_erase_of_mem hv] at this
   have:=List.length_pos_of_mem hv
   rw [List.length_cons]
   lia
noncomputable def vecs:Nat->List (List Nat)
 | 0 => [[]]
 | n+1=>((List.range 7).map fun a=>(vecs n).map (a :: ·)).flatten
theorem zhy:∀ n,(vecs n).length=7 ^ n
 | 0=>rfl
 | n+1=>by
   rw [vecs]
   have:∀ l:List Nat,(l.map fun a=>(vecs n).map (a :: ·)).flatten.length=l.length * 7 ^ n:=by
    intro l
    induction l with
    | nil=>simp
    | cons a l ih=>rw [List.map_cons,List.flatten_cons,List.length_append,ih,List.length_map,zhy n,List.length_cons,Nat.succ_mul,Nat.add_comm]
   rw [this,List.length_range,Nat.pow_succ,Nat.mul_comm]
theorem zm5:∀ {v:List Nat},(∀ a ∈ v,a<7)->v ∈ vecs v.length
 | [],_=>by simp [vecs]
 | a::v,h=>by
   show a::v ∈ vecs (v.length+1)
   rw [vecs,List.mem_flatten]
   exact ⟨_,List.mem_map.mpr ⟨a,List.mem_range.mpr (h a (by simp)),rfl⟩,List.mem_map.mpr ⟨v,zm5 fun b hb=>h b (by simp [hb]),rfl⟩⟩
theorem zne {rs:List (List Pc)} (wf:∀ p ∈ rs,WfPr p) (l5:∀ p ∈ rs,p.length<=5) (w:List Nat):rs.map (fun p=>posV p w) ∈ vecs rs.length:=by
 have:=zm5 (v:=rs.map fun p=>posV p w) fun a ha=>by
  obtain ⟨p,hp,rfl⟩:=List.mem_map.mp ha
  have:=zoq (wf p hp) w
  have:=l5 p hp
  show posV p w<7
  lia
 rw [List.length_map] at this
 exact this
theorem pow7 {n:Nat} (h:n<=4):7 ^ n<=2401:=Nat.pow_le_pow_right (n:=7) (by decide) h
theorem zg4 {p:List Pc} {w:List Nat} (m:Mem p w):∀ c ∈ w,∃ x ∈ p,c ∈ x.2:=by
 induction m with
 | nil=>intro c hc;cases hc
 | skip m ih=>exact fun c hc=>let ⟨x,hx,h⟩:=ih c hc; ⟨x,List.mem_cons_of_mem _ hx,h⟩
 | one h1 h2 m ih =>
   intro c hc
   rcases List.mem_cons.mp hc with rfl | z
   ·exact ⟨_,by simp,h2⟩
   ·obtain ⟨x,hx,h⟩:=ih c z
    exact ⟨x,List.mem_cons_of_mem _ hx,h⟩
 | any h1 h2 m ih =>
   intro c hc
   rcases List.mem_cons.mp hc with rfl | z
   ·exact ⟨_,by simp,h2⟩
   ·exact ih c z
end L3
namespace L3
open PySem PySem.Spec
open PyProof.Rows hiding St
open L2 L6
noncomputable abbrev Tr:=List Nat × List (List Pc) × List (List Pc)
noncomputable def encT (t:Tr):PyData := .tuple [.str (tx t.1),encE t.2.1,encE t.2.2]
noncomputable def zb7 (l r:List (List Pc)):PyData := .tuple [encE l,encE r]
theorem zfi {a b:List (List Pc)} (h:encE a=encE b):a=b:=by
 injection h with h
 exact zfo (fun a b e=>zer e) h
theorem zs5 {u v a b:List (List Pc)} (h:zb7 u v=zb7 a b):u=a/\v=b:=by
 unfold zb7 at h
 injection h with h
 injection h with h1 h2
 injection h2 with h2 _
 exact ⟨zfi h1,zfi h2⟩
structure RowOk (es fs:List (List Pc)) (z:List Nat) (n:Nat) (t:Tr):Prop where
 l:LR es t.1 t.2.1
 r:LR fs t.1 t.2.2
 n:t.1.length=n
 z:∀ c ∈ t.1,c ∈ z
noncomputable def Key (es fs:List (List Pc)) (S:List Nat->Prop) (k:PyData):Prop:=∃ u l r,k=zb7 l r/\LR es u l/\LR fs u r/\S u
structure Head (es fs:List (List Pc)) (z:List Nat) (n:Nat) (ts:List Tr) (ks:List PyData):Prop where
 ok:∀ t ∈ ts,RowOk es fs z n t
 asc:(ts.map (·.1)).Pairwise fun a b=>wlt a b=true
 key:∀ k ∈ ks,Key es fs (fun u=>u.length<n) k
 nd:ks.Nodup
 fst:∀ W,zbi (zay es fs) W->n<=W.length/\W.take n ∈ ts.map (·.1)
 lvl:ts ≠ []->n<=ks.length
 len:ts.length<=z.length * ks.length+1
structure Mid (es fs:List (List Pc)) (z:List Nat) (n:Nat) (ts:List Tr) (k0:List PyData) (j:Nat) (lg:List Tr) (ks:List PyData):Prop where
 hd:Head es fs z n ts k0
 ok:∀ t ∈ lg,RowOk es fs z (n+1) t
 asc:(lg.map (·.1)).Pairwise fun a b=>wlt a b=true
 of:∀ t ∈ lg,t.1.take n ∈ (ts.take j).map (·.1)
 key:∀ k ∈ ks,Key es fs (fun u=>u.length<n\/u ∈ (ts.take j).map (·.1)) k
 nd:ks.Nodup
 fst:∀ W,zbi (zay es fs) W->W.take n ∈ (ts.take j).map (·.1)->n<W.length/\W.take (n+1) ∈ lg.map (·.1)
 le:k0.length<=ks.length
 gr:lg ≠ []->k0.length<ks.length
 len:lg.length<=z.length * ks.length
theorem Key.mono {es fs:List (List Pc)} {S S':List Nat->Prop} {k:PyData} (h:Key es fs S k) (hs:∀ u,S u->S' u):Key es fs S' k:=let ⟨u,l,r,a,b,c,d⟩:=h; ⟨u,l,r,a,b,c,hs u d⟩
theorem zvm {es fs:List (List Pc)} (w1:∀ p ∈ es++fs,WfPr p) (l5:∀ p ∈ es++fs,p.length<=5) (hl:es.length+fs.length<=4) {S:List Nat->Prop} {ks:List PyData} (nd:ks.Nodup) (h:∀ k ∈ ks,Key es fs S k):ks.length<=2401:=by
 have:=zl4 (R:=fun (v:List Nat) (k:PyData)=>∃ u l r,v=(es++fs).map (fun p=>posV p u)/\k=zb7 l r/\LR es u l/\LR fs u r) (fun v k k' ⟨u,l,r,e1,e2,e3,e4⟩ ⟨u',l',r',f1,f2,f3,f4⟩=>by
  subst e2 f2
  have hp:∀ p ∈ es++fs,posV p u=posV p u':=List.map_inj_left.mp (e1.symm.trans f1)
  rw [e3.uniq f3 (zgp (fun p hp=>w1 p (by simp [hp])) fun p hq=>hp p (by simp [hq])),e4.uniq f4 (zgp (fun p hp=>w1 p (by simp [hp])) fun p hq=>hp p (by simp [hq]))]) (vs:=vecs (es++fs).length) nd fun k hk=>by
  obtain ⟨u,l,r,a,b,c,d⟩:=h k hk
  exact ⟨_,zne w1 l5 u,u,l,r,rfl,a,b,c⟩
 rw [zhy] at this
 exact Nat.le_trans this (pow7 (by rw [List.length_append];exact hl))
section
variable {es fs : List (List Pc)} {z : List Nat} {n : Nat} {ts : List Tr} {k0 ks : List PyData} {j : Nat} {lg : List Tr}
theorem Head.mid (h:Head es fs z n ts ks):Mid es fs z n ts ks 0 [] ks :=
 ⟨h,(by intro _ q;cases q),(by simp),(by intro _ q;cases q),fun k hk=>(h.key k hk).mono fun u hu => .inl hu,h.nd,fun W _ q=>(by simp at q),Nat.le_refl _,fun q=>absurd rfl q,Nat.zero_le _⟩
theorem zil {t:Tr} (hj:ts[j]? = some t):(ts.take (j+1)).map (·.1)=(ts.take j).map (·.1) ++ [t.1]:=by rw [List.take_add_one,hj,List.map_append];rfl
theorem Mid.cut (m:Mid es fs z n ts k0 j lg ks) {t:Tr} (hj:ts[j]? = some t) {W:List Nat} (h:zbi (zay es fs) W) (e:W.take n=t.1):∃ s,W=t.1++s:=⟨W.drop n,by rw [<- e,List.take_append_drop]⟩
theorem Mid.pass (m:Mid es fs z n ts k0 j lg ks) {t:Tr} (hj:ts[j]? = some t) (no:∀ s,¬ zbi (zay es fs) (t.1++s)):Mid es fs z n ts k0 (j+1) lg ks:=by
 refine ⟨m.hd,m.ok,m.asc,fun t' ht'=>?_,fun k hk=>(m.key k hk).mono fun u hu=>?_,m.nd,fun W hW q=>?_,m.le,m.gr,m.len⟩
 ·rw [zil hj]
  exact List.mem_append.mpr (.inl (m.of t' ht'))
 ·rw [zil hj]
  rcases hu with q | q
  ·exact .inl q
  ·exact .inr (List.mem_append.mpr (.inl q))
 ·rw [zil hj] at q
  rcases List.mem_append.mp q with q | q
  ·exact m.fst W hW q
  ·obtain ⟨s,rfl⟩:=m.cut hj hW (List.mem_singleton.mp q)
   exact absurd hW (no s)
theorem Mid.same (m:Mid es fs z n ts k0 j lg ks) {t:Tr} (hj:ts[j]? = some t) (e:t.2.1=t.2.2):Mid es fs z n ts k0 (j+1) lg ks:=by
 have o:=m.hd.ok t (List.mem_of_getElem? hj)
 exact m.pass hj fun s h=>h.1 ((o.l.same o.r).mp e s)
theorem Mid.before (m:Mid es fs z n ts k0 j lg ks) {t:Tr} (hj:ts[j]? = some t) {u:List Nat} (hu:u.length<n\/u ∈ (ts.take j).map (·.1)):wlt u t.1=true:=by
 have o:=m.hd.ok t (List.mem_of_getElem? hj)
 rcases hu with q | q
 ·rw [wlt_iff,o.n]
  exact .inl q
 ·have a:=m.hd.asc
  have hl:=(List.getElem?_eq_some_iff.mp hj).1
  have e:ts.map (·.1)=(ts.take j).map (·.1)++t.1::(ts.drop (j+1)).map (·.1):=by
   rw [<- List.map_cons,<- List.map_append,<- (List.getElem?_eq_some_iff.mp hj).2,<- List.drop_eq_getElem_cons hl,List.take_append_drop]
  rw [e,List.pairwise_append] at a
  exact a.2.2 u q t.1 (by simp)
theorem Mid.seen (m:Mid es fs z n ts k0 j lg ks) {t:Tr} (hj:ts[j]? = some t) (e:zb7 t.2.1 t.2.2 ∈ ks):Mid es fs z n ts k0 (j+1) lg ks:=by
 have o:=m.hd.ok t (List.mem_of_getElem? hj)
 obtain ⟨u,l,r,e1,e2,e3,e4⟩:=m.key _ e
 obtain ⟨rfl,rfl⟩:=zs5 e1
 refine m.pass hj fun s h=>znd h (m.before hj e4) fun p q=>p ?_
 rw [<- o.l.wd,<- o.r.wd,e2.wd,e3.wd]
 exact q
theorem Mid.found (m:Mid es fs z n ts k0 j lg ks) {t:Tr} (hj:ts[j]? = some t) (ne:t.2.1 ≠ t.2.2) (e:t.2.1 = []\/t.2.2 = []):zbi (zay es fs) t.1:=by
 have o:=m.hd.ok t (List.mem_of_getElem? hj)
 have pt:zay es fs t.1:=fun q=>by
  rcases e with e | e
  ·have a:=o.l.none.mp e
   have b:=o.r.none.mpr fun z=>a (q.mpr z)
   exact ne (e.trans b.symm)
  ·have a:=o.r.none.mp e
   have b:=o.l.none.mpr fun z=>a (q.mp z)
   exact ne (b.trans e.symm)
 obtain ⟨W,hW⟩:=zfb ⟨_,pt⟩
 have le:=hW.2 _ pt
 obtain ⟨h1,h2⟩:=m.hd.fst W hW
 have hn:W.length=n:=by
  rcases Nat.lt_or_ge n W.length with q | q
  ·rw [wlt_iff.mpr (.inl (by rw [o.n];exact q))] at le
   cases le
  ·lia
 have hl:=(List.getElem?_eq_some_iff.mp hj).1
 have eW:W.take n=W:=List.take_of_length_le (by lia)
 rw [eW] at h2
 have e2:ts.map (·.1)=(ts.take j).map (·.1)++t.1::(ts.drop (j+1)).map (·.1):=by
  rw [<- List.map_cons,<- List.map_append,<- (List.getElem?_eq_some_iff.mp hj).2,<- List.drop_eq_getElem_cons hl,List.take_append_drop]
 rw [e2] at h2
 rcases List.mem_append.mp h2 with q | q
 ·have:=(m.fst W hW (by rw [eW];exact q)).1
  lia
 ·rcases List.mem_cons.mp q with rfl | q
  ·exact hW
  ·have a:=m.hd.asc
   rw [e2,List.pairwise_append] at a
   rw [(List.pairwise_cons.mp a.2.1).1 W q] at le
   cases le
theorem Mid.more (m:Mid es fs z n ts k0 j lg ks) {t:Tr} (hj:ts[j]? = some t) (n1:t.2.1 ≠ []) (n2:t.2.2 ≠ []) (nk:zb7 t.2.1 t.2.2 ∉ ks) (hz:z.Pairwise (· < ·)) (hs:∀ p ∈ es++fs,∀ x ∈ p,∀ c ∈ x.2,c ∈ z) {nw:List Tr} (en:nw.map (·.1)=z.map fun c=>t.1 ++ [c]) (ok:∀ t' ∈ nw,RowOk es fs z (n+1) t'):Mid es fs z n ts k0 (j+1) (lg++nw) (ks ++ [zb7 t.2.1 t.2.2]):=by
 have o:=m.hd.ok t (List.mem_of_getElem? hj)
 have tw:=zil hj
 refine ⟨m.hd,fun t' ht'=>?_,?_,fun t' ht'=>?_,fun k hk=>?_,?_,fun W hW q=>?_,?_,?_,?_⟩
 ·rcases List.mem_append.mp ht' with q | q
  ·exact m.ok t' q
  ·exact ok t' q
 ·rw [List.map_append,List.pairwise_append]
  refine ⟨m.asc,?_,fun a ha b hb=>?_⟩
  ·rw [en]
   exact List.pairwise_map.mpr (hz.imp fun {c d} h=>zn3 _ h)
  ·rw [en] at hb
   obtain ⟨c,hc,rfl⟩:=List.mem_map.mp hb
   obtain ⟨t',ht',rfl⟩:=List.mem_map.mp ha
   have o':=m.ok t' ht'
   have:=m.before hj (.inr (m.of t' ht'))
   have e:t'.1=t'.1.take n ++ [t'.1[n]'(by rw [o'.n];lia)]:=by
    rw [List.take_append_getElem]
    exact (List.take_of_length_le (by rw [o'.n];exact Nat.le_refl _)).symm
   rw [e]
   exact zni (by rw [List.length_take,o'.n,o.n];lia) this _ _
 ·rw [tw]
  rcases List.mem_append.mp ht' with q | q
  ·exact List.mem_append.mpr (.inl (m.of t' q))
  ·have:t'.1 ∈ z.map fun c=>t.1 ++ [c]:=by rw [<- en];exact List.mem_map.mpr ⟨t',q,rfl⟩
   obtain ⟨c,_,e⟩:=List.mem_map.mp this
   have e3:(t.1 ++ [c]).take n=t.1:=by rw [<- o.n];exact List.take_left
   rw [<- e,e3]
   simp
 ·rw [tw]
  rcases List.mem_append.mp hk with q | q
  ·refine (m.key k q).mono fun u hu=>?_
   rcases hu with q | q
   ·exact .inl q
   ·exact .inr (List.mem_append.mpr (.inl q))
  ·exact ⟨t.1,t.2.1,t.2.2,List.mem_singleton.mp q,o.l,o.r,.inr (by simp)⟩
 ·rw [List.nodup_append]
  exact ⟨m.nd,by simp,fun a ha b hb e=>nk (by rw [List.mem_singleton.mp hb] at e;exact e ▸ ha)⟩
 ·rw [tw] at q
  rcases List.mem_append.mp q with q | q
  ·obtain ⟨a,b⟩:=m.fst W hW q
   exact ⟨a,by rw [List.map_append];exact List.mem_append.mpr (.inl b)⟩
  ·obtain ⟨s,rfl⟩:=m.cut hj hW (List.mem_singleton.mp q)
   have y1:wds es t.1:=Classical.byContradiction fun z=>n1 (o.l.none.mpr z)
   have y2:wds fs t.1:=Classical.byContradiction fun z=>n2 (o.r.none.mpr z)
   cases s with
   | nil =>
     have:=hW.1
     rw [List.append_nil] at this
     exact absurd ⟨fun _=>y2,fun _=>y1⟩ this
   | cons c s =>
     refine ⟨by rw [List.length_append,o.n,List.length_cons];lia,?_⟩
     have hc:c ∈ z:=by
      have:wds es (t.1++c::s)\/wds fs (t.1++c::s):=Classical.byContradiction fun q=>hW.1 ⟨fun a=>absurd (.inl a) q,fun a=>absurd (.inr a) q⟩
      rcases this with ⟨p,hp,mm⟩ | ⟨p,hp,mm⟩
      ·obtain ⟨x,hx,h⟩:=zg4 mm c (by simp)
       exact hs p (by simp [hp]) x hx c h
      ·obtain ⟨x,hx,h⟩:=zg4 mm c (by simp)
       exact hs p (by simp [hp]) x hx c h
     have e:(t.1++c::s).take (n+1)=t.1 ++ [c]:=by
      have:t.1++c::s=(t.1 ++ [c])++s:=by simp
      rw [this]
      have l:(t.1 ++ [c]).length=n+1:=by rw [List.length_append,o.n];rfl
      rw [<- l]
      exact List.take_left
     rw [e,List.map_append,en]
     exact List.mem_append.mpr (.inr (List.mem_map.mpr ⟨c,hc,rfl⟩))
 ·rw [List.length_append]
  have:=m.le
  lia
 ·intro _
  rw [List.length_append,List.length_singleton]
  have:=m.le
  lia
 ·have e1:nw.length=z.length:=by have:=congrArg List.length en;rw [List.length_map,List.length_map] at this;exact this
  rw [List.length_append,List.length_append,List.length_singleton,e1,Nat.mul_add,Nat.mul_one]
  have:=m.len
  lia
theorem Mid.head (m:Mid es fs z n ts k0 ts.length lg ks):Head es fs z (n+1) lg ks:=by
 have e:ts.take ts.length=ts:=List.take_of_length_le (Nat.le_refl _)
 refine ⟨m.ok,m.asc,fun k hk=>(m.key k hk).mono fun u hu=>?_,m.nd,fun W hW=>?_,fun ne=>?_,by have:=m.len;lia⟩
 ·rcases hu with q | q
  ·lia
  ·rw [e] at q
   obtain ⟨t,ht,rfl⟩:=List.mem_map.mp q
   rw [(m.hd.ok t ht).n]
   lia
 ·obtain ⟨_,b⟩:=m.hd.fst W hW
  obtain ⟨c,d⟩:=m.fst W hW (by rw [e];exact b)
  exact ⟨c,d⟩
 ·have:=m.gr ne
  have h0:ts ≠ []:=fun q=>by
   subst q
   obtain ⟨t,ht⟩:=List.exists_mem_of_ne_nil _ ne
   have:=m.of t ht
   simp at this
  have:=m.hd.lvl h0
  lia
theorem Head.none (h:Head es fs z n [] ks) (w:List Nat):¬ zay es fs w:=fun p=>by
 obtain ⟨W,hW⟩:=zfb ⟨w,p⟩
 have:=(h.fst W hW).2
 simp at this
theorem Head.start {l r:List (List Pc)} (hl:LR es [] l) (hr:LR fs [] r):Head es fs z 0 [([],l,r)] [] :=
 ⟨fun t ht=>by rw [List.mem_singleton.mp ht];exact ⟨hl,hr,rfl,(by intro _ q;cases q)⟩,by simp,(by intro _ q;cases q),by simp,fun W _=>⟨Nat.zero_le _,by simp⟩,fun _=>Nat.zero_le _,by simp⟩
end
end L3
namespace L3
open PySem PySem.Spec
open PyProof.Rows hiding St
open L2 L6
theorem zi9 {m1 m2:List (List Pc)} (h:m1.length+m2.length<64):addF (encE m1) (encE m2)=some (.o (encE (m1++m2))):=by
 have sz:=sizeLine_eq
 show (if List.length _+List.length _<=sizeLine then some (R.o (.tuple (_++_))) else none)=_
 rw [List.length_map,List.length_map,if_pos (by lia),<- List.map_append]
 rfl
noncomputable def inE (es fs:List (List Pc)):Bool:=es.all fun p=>fs.any fun o=>za0 p o
theorem zxm {f g:DE} {ρ:DSt} {Q:R->Prop} {b1 b2:Bool} (h:∀ Q':R->Prop,Q' (.o (.bool b1))->f ρ Q') (h':∀ Q':R->Prop,Q' (.o (.bool b2))->g ρ Q') (q:Q (.o (.bool (b1 && b2)))):andV f g ρ Q :=
 h _ ⟨b1,rfl,by
   cases b1 with
   | true=>exact iteT (h' _ q)
   | false=>exact iteF q⟩
theorem zta {es fs:List (List Pc)} (h1:∀ p ∈ es,RP p) (h2:∀ p ∈ fs,RP p):inE es fs=true↔∀ w,wds es w->wds fs w:=by
 unfold inE
 rw [List.all_eq_true]
 constructor
 ·rintro h w ⟨p,hp,m⟩
  obtain ⟨o,ho,u⟩:=List.any_eq_true.mp (h p hp)
  exact ⟨o,ho,(zb0 (h1 p hp).wf (h2 o ho).wf).mp u w m⟩
 ·intro h p hp
  have rp:=h1 p hp
  obtain ⟨q,hq,m⟩:=h (zbu p 101) ⟨p,hp,ze5 rp.wf.all⟩
  have rq:=(h2 q hq).wf
  have hb:=(zbb rq).mpr m
  unfold hasB at hb
  rw [<- zdi rq (n:=101) (by have:=rq.len;lia) rp.wf.all (Nat.zero_le _),zbw rp.wf rq] at hb
  exact List.any_eq_true.mpr ⟨q,hq,hb⟩
theorem zg2 {es:List (List Pc)} (h:∀ p ∈ es,RP p) (w:List Nat):(es.any fun p=>hasB p w)=true↔wds es w:=by
 rw [List.any_eq_true]
 exact ⟨fun ⟨p,hp,m⟩=>⟨p,hp,(zbb (h p hp).wf).mp m⟩,fun ⟨p,hp,m⟩=>⟨p,hp,(zbb (h p hp).wf).mpr m⟩⟩
theorem z2y {es fs:List (List Pc)} (h:∀ p ∈ es,RP p) (h':∀ p ∈ fs,RP p) {w:List Nat} (e:wds es w↔wds fs w):(es.any fun p=>hasB p w)=fs.any fun p=>hasB p w:=by
 rw [Bool.eq_iff_iff,zg2 h,zg2 h',e]
theorem znr {m:Nat} {g:DS} {Dd:DEnds} {ρ:DSt} {ds:List PyData} {d:DV} (h:d = .own ds\/d = .im (.list ds)) (e:ρ[m]? = some (some d)) (q:g Dd (ρ.set m (some (.im (.list ds))))):disS m g Dd ρ:=by
 rcases h with rfl | rfl
 ·exact .inr ⟨ds,e,q⟩
 ·obtain ⟨hl,e2⟩:=List.getElem?_eq_some_iff.mp e
  rw [<- e2,List.set_getElem_self hl] at q
  exact .inl q
end L3
namespace HK
open PySem PySem.Spec PyProof.Rows PySem.SetTable SX TB
noncomputable instance:DecidableEq PyData:=fun a b=>Classical.propDecidable (a=b)
structure DKey (k:PyData):Prop where
 tu:∃ ds,k = .tuple ds
 ha:hk k=true
 la:k.canLay0=true
 de:k.depth<=8
theorem zgd {h:Heap} {n:Nat} (ih:∀ d:PyData,d.depth<=n->hk d=true->∀ (e:PyData) v as bs,hk e=true->Reads h v d as->Reads h v e bs->d=e):∀ {vs:List Value} {ds es:List PyData} {as bs:List Addr},(∀ d ∈ ds,d.depth<=n)->hks ds=true->hks es=true->ReadsAll h vs ds as->ReadsAll h vs es bs->ds=es
 | [],_,_,_,_,_,_,_,r,r'=>by cases r;cases r';rfl
 | v::vs,_,_,_,_,hd,h1,h2,r,r'=>by
   cases r with
   | cons r1 r2 =>
     cases r' with
     | cons r3 r4 =>
       simp only [hks,Bool.and_eq_true] at h1 h2
       rw [ih _ (hd _ (by simp)) h1.1 _ _ _ _ h2.1 r1 r3,zgd ih (fun d z=>hd d (List.mem_cons_of_mem _ z)) h1.2 h2.2 r2 r4]
theorem zsh {h:Heap}:∀ (n:Nat) (d:PyData),d.depth<=n->hk d=true->∀ (e:PyData) v as bs,hk e=true->Reads h v d as->Reads h v e bs->d=e:=by
 intro n
 induction n with
 | zero =>
   intro d hd hk' e v as bs he r r'
   cases r with
   | int i t=>cases r';rfl
   | str x t=>cases r';rfl
   | tuple _ _ _ _=>simp [PyData.depth] at hd
   | _=>simp [hk] at hk'
 | succ n ih =>
   intro d hd hk' e v as bs he r r'
   cases r with
   | int i t=>cases r';rfl
   | str x t=>cases r';rfl
   | @tuple a o vs c ds as ho hc hdt hr =>
     have hds:hks ds=true:=by simpa [hk] using hk'
     rw [PyData.depth] at hd
     cases r' with
     | @tuple _ o' vs' c' es bs ho' hc' hdt' hr' =>
       obtain rfl:o=o':=Option.some.inj (ho.symm.trans ho')
       rw [hdt] at hdt'
       injection hdt' with h1 _
       subst h1
       have hes:hks es=true:=by simpa [hk] using he
       rw [zgd ih (fun d z=>by have:=zdd z;lia) hds hes hr hr']
     | list _ _ _ _=>simp [hk] at he
     | dict _ _ _ _ _=>simp [hk] at he
   | _=>simp [hk] at hk'
theorem zmy {k k':PyData} (h:DKey k) (h':DKey k'):PyData.eqv k k'=true↔k=k':=L3.eqv_solid k k' (zcl k h.ha) (zcl k' h'.ha)
noncomputable def dataKind (P:Program) (w:World):HeapKind P w PyData where
 is h k a:=DKey k/\∃ as,Reads h (.ref a) k as
 hash:=hD w
 draws:=dr
 room A:=A.units+16<cLine
 inj:=fun ⟨h1,_,r1⟩ ⟨h2,_,r2⟩=>zsh 8 _ h1.de h1.ha _ _ _ _ h2.ha r1 r2
 keeps:=by
  rintro h h' k a d o es ep ⟨hk',as,r⟩ ho hd sb
  refine ⟨hk',as,zic (fun b o' xs n e dt=>?_) 8 k hk'.de hk'.ha _ _ r⟩
  have ne:b ≠ d:=by
   rintro rfl
   rw [ho] at e
   cases e
   rw [hd] at dt
   exact nomatch dt
  exact (sb.2 b ne).trans e
 pyHash:=fun hr ⟨hk',as,r⟩ q=>ziz 8 _ hk'.de hk'.ha _ _ _ _ _ _ (by have:=hk'.de;lia) r q
 eqBool:=by
  rintro A E s x y a b Q hr ⟨hx,as,rx⟩ ⟨hy,bs,ry⟩ q
  refine SeqAt.eqBoolOverData _ _ _ _ _ _ _ x y _ _ _ rx ry hx.la hy.la (by have:=hy.de;have:=hx.de;lia) ?_
  have e:decide (x=y)=PyData.eqv x y:=by
   by_cases z:x=y
   ·rw [decide_eq_true z,(zmy hx hy).mpr z]
   ·rw [decide_eq_false z]
    cases h:PyData.eqv x y
    ·rfl
    ·exact absurd ((zmy hx hy).mp h) z
  rw [<- e]
  exact q
 quiet:=fun ⟨hk',as,r⟩ q=>zeu 8 _ hk'.de hk'.ha _ _ _ _ _ _ r q
end HK
namespace L3
open PySem PySem.Spec
open PyProof.Rows hiding St
open L2 L6
noncomputable def nT (ns:List Nat):PyData := .tuple (ns.map fun n:Nat => .int n)
theorem z2e {a b:List Nat} (h:nT a=nT b):a=b:=by
 injection h with h
 exact zfo (fun x y e=>by injection e with e;exact Int.ofNat.inj e) h
noncomputable def vec (ps:List (List Pc)) (w:List Nat):List Nat:=ps.map fun p=>posV p w
structure PHd (ps:List (List Pc)) (Pt:List Nat->Prop) (z:List Nat) (n:Nat) (ws:List (List Nat)) (ks:List PyData):Prop where
 ok:∀ w ∈ ws,w.length=n/\∀ c ∈ w,c ∈ z
 asc:ws.Pairwise fun a b=>wlt a b=true
 key:∀ k ∈ ks,∃ u,k=nT (vec ps u)/\u.length<=n
 nd:ks.Nodup
 fst:∀ W,zbi Pt W->n<=W.length/\W.take n ∈ ws
 lvl:ws ≠ []->n<ks.length
 len:ws.length<=ks.length
structure PMd (ps:List (List Pc)) (Pt:List Nat->Prop) (z:List Nat) (n k0:Nat) (Dn:List Nat->Prop) (lg:List (List Nat)) (ks:List PyData):Prop where
 ok:∀ w ∈ lg,w.length=n+1/\∀ c ∈ w,c ∈ z
 asc:lg.Pairwise fun a b=>wlt a b=true
 of:∀ v ∈ lg,Dn v
 key:∀ k ∈ ks,∃ u,k=nT (vec ps u)/\(u.length<=n\/u ∈ lg)
 nd:ks.Nodup
 fst:∀ W,zbi Pt W->n<W.length->Dn (W.take (n+1))->W.take (n+1) ∈ lg
 len:lg.length+k0<=ks.length
section
variable {ps : List (List Pc)} {Pt : List Nat → Prop} {z : List Nat} {n k0 : Nat} {Dn Dn' : List Nat → Prop} {lg : List (List Nat)} {ks : List PyData} {v : List Nat}
theorem PMd.weak (m:PMd ps Pt z n k0 Dn lg ks) (h1:∀ u ∈ lg,Dn u->Dn' u) (h2:∀ W,zbi Pt W->n<W.length->Dn' (W.take (n+1))->Dn (W.take (n+1))):PMd ps Pt z n k0 Dn' lg ks :=
 ⟨m.ok,m.asc,fun u hu=>h1 u hu (m.of u hu),m.key,m.nd,fun W hW hl hd=>m.fst W hW hl (h2 W hW hl hd),m.len⟩
theorem PMd.skip (m:PMd ps Pt z n k0 Dn lg ks) (cong:∀ u w,vec ps u=vec ps w->∀ s,Pt (w++s)->Pt (u++s)) (hv:v.length=n+1) (lt:∀ u ∈ lg,wlt u v=true) (hk:nT (vec ps v) ∈ ks):PMd ps Pt z n k0 (fun u=>Dn u\/u=v) lg ks:=by
 refine m.weak (fun u _ h => .inl h) fun W hW hl hd=>?_
 rcases hd with q | q
 ·exact q
 ·obtain ⟨u,e,hu⟩:=m.key _ hk
  have ew:W=v++W.drop (n+1):=by rw [<- q,List.take_append_drop]
  rw [ew] at hW
  refine (znd hW (u:=u) ?_ (cong u v (z2e e).symm _)).elim
  rcases hu with z | z
  ·rw [wlt_iff];left;lia
  ·exact lt u z
theorem PMd.add (m:PMd ps Pt z n k0 Dn lg ks) (hv:v.length=n+1) (hz:∀ c ∈ v,c ∈ z) (lt:∀ u ∈ lg,wlt u v=true) (hk:nT (vec ps v) ∉ ks):PMd ps Pt z n k0 (fun u=>Dn u\/u=v) (lg ++ [v]) (ks ++ [nT (vec ps v)]):=by
 refine ⟨fun w hw=>?_,?_,fun u hu=>?_,fun k hk=>?_,?_,fun W hW hl hd=>?_,?_⟩
 ·rcases List.mem_append.mp hw with q | q
  ·exact m.ok w q
  ·rw [List.mem_singleton.mp q];exact ⟨hv,hz⟩
 ·rw [List.pairwise_append]
  exact ⟨m.asc,by simp,fun a ha b hb=>by rw [List.mem_singleton.mp hb];exact lt a ha⟩
 ·rcases List.mem_append.mp hu with q | q
  ·exact .inl (m.of u q)
  ·exact .inr (List.mem_singleton.mp q)
 ·rcases List.mem_append.mp hk with q | q
  ·obtain ⟨u,e,h⟩:=m.key k q
   exact ⟨u,e,h.imp id fun h=>List.mem_append.mpr (.inl h)⟩
  ·exact ⟨v,List.mem_singleton.mp q,.inr (by simp)⟩
 ·rw [List.nodup_append]
  exact ⟨m.nd,by simp,fun a ha b hb e=>hk (by rw [List.mem_singleton.mp hb] at e;exact e ▸ ha)⟩
 ·rcases hd with q | q
  ·exact List.mem_append.mpr (.inl (m.fst W hW hl q))
  ·rw [q];simp
 ·rw [List.length_append,List.length_append]
  have:=m.len
  simp
  lia
end
section
variable {ps : List (List Pc)} {Pt : List Nat → Prop} {z : List Nat} {n : Nat} {ws : List (List Nat)} {k0 ks : List PyData} {lg : List (List Nat)} {j i : Nat} {w : List Nat}
noncomputable def DnR (n:Nat) (ws:List (List Nat)) (j:Nat):List Nat->Prop:=fun v=>v.take n ∈ ws.take j
noncomputable def DnL (n:Nat) (ws:List (List Nat)) (j:Nat) (z w:List Nat) (i:Nat):List Nat->Prop:=fun v=>DnR n ws j v\/∃ c ∈ z.take i,v=w ++ [c]
theorem PHd.mid (h:PHd ps Pt z n ws ks):PMd ps Pt z n ks.length (DnR n ws 0) [] ks :=
 ⟨(by intro _ q;cases q),by simp,(by intro _ q;cases q),fun k hk=>let ⟨u,e,hu⟩:=h.key k hk; ⟨u,e,.inl hu⟩,h.nd,fun W _ _ q=>by unfold DnR at q;simp at q,by simp⟩
theorem PHd.parts (h:PHd ps Pt z n ws k0) (hj:ws[j]? = some w) (np:∀ u ∈ ws.take j,¬ Pt u) (p:Pt w):zbi Pt w:=by
 obtain ⟨W,hW⟩:=zfb ⟨w,p⟩
 have le:=hW.2 _ p
 obtain ⟨h1,h2⟩:=h.fst W hW
 have wn:=(h.ok w (List.mem_of_getElem? hj)).1
 have hn:W.length=n:=by
  rcases Nat.lt_or_ge n W.length with q | q
  ·rw [wlt_iff.mpr (.inl (by rw [wn];exact q))] at le
   cases le
  ·lia
 rw [List.take_of_length_le (by lia)] at h2
 have hl:=(List.getElem?_eq_some_iff.mp hj).1
 have e:ws=ws.take j++w::ws.drop (j+1):=by rw [<- (List.getElem?_eq_some_iff.mp hj).2,<- List.drop_eq_getElem_cons hl,List.take_append_drop]
 rw [e] at h2
 rcases List.mem_append.mp h2 with q | q
 ·exact absurd hW.1 (np W q)
 ·rcases List.mem_cons.mp q with rfl | q
  ·exact hW
  ·have a:=h.asc
   rw [e,List.pairwise_append] at a
   rw [(List.pairwise_cons.mp a.2.1).1 W q] at le
   cases le
theorem PHd.lt (h:PHd ps Pt z n ws k0) (hj:ws[j]? = some w) (hz:z.Pairwise (· < ·)) {c:Nat} (hc:z[i]? = some c) {u:List Nat} (hu:u.length=n+1) (d:DnL n ws j z w i u):wlt u (w ++ [c])=true:=by
 have wn:=(h.ok w (List.mem_of_getElem? hj)).1
 rcases d with d | ⟨c',hc',rfl⟩
 ·have e:u=u.take n ++ [u[n]'(by lia)]:=by
   rw [List.take_append_getElem]
   exact (List.take_of_length_le (by rw [hu];exact Nat.le_refl _)).symm
  rw [e]
  refine zni (by rw [List.length_take,wn];lia) ?_ _ _
  have hl:=(List.getElem?_eq_some_iff.mp hj).1
  have e2:ws=ws.take j++w::ws.drop (j+1):=by rw [<- (List.getElem?_eq_some_iff.mp hj).2,<- List.drop_eq_getElem_cons hl,List.take_append_drop]
  have a:=h.asc
  rw [e2,List.pairwise_append] at a
  exact a.2.2 _ d w (by simp)
 ·refine zn3 w ?_
  have hl:=(List.getElem?_eq_some_iff.mp hc).1
  have e2:z=z.take i++c::z.drop (i+1):=by rw [<- (List.getElem?_eq_some_iff.mp hc).2,<- List.drop_eq_getElem_cons hl,List.take_append_drop]
  rw [e2,List.pairwise_append] at hz
  exact hz.2.2 c' hc' c (by simp)
theorem zfl {c:Nat} (hc:z[i]? = some c) (u:List Nat):(DnL n ws j z w i u\/u=w ++ [c])↔DnL n ws j z w (i+1) u:=by
 unfold DnL
 rw [List.take_add_one,hc]
 constructor
 ·rintro ((q | ⟨d,hd,e⟩) | q)
  ·exact .inl q
  ·exact .inr ⟨d,List.mem_append.mpr (.inl hd),e⟩
  ·exact .inr ⟨c,by simp,q⟩
 ·rintro (q | ⟨d,hd,e⟩)
  ·exact .inl (.inl q)
  ·rcases List.mem_append.mp hd with q | q
   ·exact .inl (.inr ⟨d,q,e⟩)
   ·have:d=c:=by simpa using q
    exact .inr (this ▸ e)
theorem PMd.row (m:PMd ps Pt z n k0.length (DnL n ws j z w z.length) lg ks) (h:PHd ps Pt z n ws k0) (hj:ws[j]? = some w) (hs:∀ W,Pt W->∀ c ∈ W,c ∈ z):PMd ps Pt z n k0.length (DnR n ws (j+1)) lg ks:=by
 have wn:=(h.ok w (List.mem_of_getElem? hj)).1
 have tw:ws.take (j+1)=ws.take j ++ [w]:=by rw [List.take_add_one,hj];rfl
 refine m.weak (fun u hu d=>?_) fun W hW hl d=>?_
 ·unfold DnR
  rw [tw]
  rcases d with d | ⟨c,_,rfl⟩
  ·exact List.mem_append.mpr (.inl d)
  ·have e:(w ++ [c]).take n=w:=by rw [<- wn];exact List.take_left
   rw [e];simp
 ·unfold DnR at d
  rw [tw] at d
  rcases List.mem_append.mp d with d | d
  ·exact .inl d
  ·have d:=List.mem_singleton.mp d
   rw [List.take_take,Nat.min_eq_left (Nat.le_succ n)] at d
   have e:W.take (n+1)=w ++ [W[n]]:=by rw [<- d,List.take_append_getElem]
   exact .inr ⟨W[n],by rw [List.take_of_length_le (Nat.le_refl _)];exact hs W hW.1 _ (List.getElem_mem hl),e⟩
theorem PMd.head (m:PMd ps Pt z n k0.length (DnR n ws ws.length) lg ks) (h:PHd ps Pt z n ws k0) (np:∀ u ∈ ws,¬ Pt u):PHd ps Pt z (n+1) lg ks:=by
 have e:ws.take ws.length=ws:=List.take_of_length_le (Nat.le_refl _)
 have le:=m.len
 refine ⟨m.ok,m.asc,fun k hk=>?_,m.nd,fun W hW=>?_,fun ne=>?_,by lia⟩
 ·obtain ⟨u,e,hu⟩:=m.key k hk
  refine ⟨u,e,?_⟩
  rcases hu with q | q
  ·lia
  ·rw [(m.ok u q).1];exact Nat.le_refl _
 ·obtain ⟨a,b⟩:=h.fst W hW
  have lt:n<W.length:=by
   rcases Nat.lt_or_ge n W.length with q | q
   ·exact q
   ·rw [List.take_of_length_le q] at b
    exact absurd hW.1 (np W b)
  refine ⟨lt,m.fst W hW lt ?_⟩
  unfold DnR
  rw [e,List.take_take,Nat.min_eq_left (Nat.le_succ n)]
  exact b
 ·have wne:ws ≠ []:=fun q=>by
   subst q
   obtain ⟨t,ht⟩:=List.exists_mem_of_ne_nil _ ne
   have:=m.of t ht
   unfold DnR at this
   simp at this
  have:=h.lvl wne
  have:0<lg.length:=List.length_pos_iff.mpr ne
  lia
theorem PHd.none (h:PHd ps Pt z n [] ks) (w:List Nat):¬ Pt w:=fun p=>by
 obtain ⟨W,hW⟩:=zfb ⟨w,p⟩
 have:=(h.fst W hW).2
 simp at this
theorem PHd.start:PHd ps Pt z 0 [[]] [nT (vec ps [])] :=
 ⟨fun w hw=>by rw [List.mem_singleton.mp hw];exact ⟨rfl,by intro _ q;cases q⟩,by simp,fun k hk=>⟨[],List.mem_singleton.mp hk,Nat.le_refl _⟩,by simp,fun W _=>⟨Nat.zero_le _,by simp⟩,fun _=>by simp,by simp⟩
end
theorem zrz {ps:List (List Pc)} (w1:∀ p ∈ ps,WfPr p) (l5:∀ p ∈ ps,p.length<=5) (hl:ps.length<=4) {ks:List PyData} (nd:ks.Nodup) (h:∀ k ∈ ks,∃ u,k=nT (vec ps u)):ks.length<=2401:=by
 have:=zl4 (R:=fun (v:List Nat) (k:PyData)=>k=nT v) (fun v k k' e e'=>e.trans e'.symm) (vs:=vecs ps.length) nd fun k hk=>by
  obtain ⟨u,e⟩:=h k hk
  exact ⟨_,zne w1 l5 u,e⟩
 rw [zhy] at this
 exact Nat.le_trans this (pow7 hl)
theorem zjj {v:List Nat}:HK.DKey (nT v):=by
 refine ⟨⟨_,rfl⟩,?_,?_,?_⟩
 ·exact HK.sh_hk (.arr .n) _ ⟨_,rfl,fun x hx=>by
   obtain ⟨m,_,rfl⟩:=List.mem_map.mp hx
   exact ⟨_,rfl⟩⟩
 ·show PyData.canLayAll0 (v.map fun n:Nat => .int n)=true
  induction v with
  | nil=>rfl
  | cons a v ih=>rw [List.map_cons,PyData.canLayAll0,ih];rfl
 ·have:PyData.depthAll (v.map fun n:Nat => .int n)<=0:=by
   induction v with
   | nil=>exact Nat.le_refl _
   | cons a v ih=>rw [List.map_cons,PyData.depthAll,PyData.depth];lia
  unfold nT
  rw [PyData.depth]
  lia
end L3
namespace L3
open PySem PySem.Spec
open PyProof.Rows hiding St
open L2
section
variable {ι κ : Type} {P : Program} {w : World} {K : PySem.W.Frag} {mg : Str → Option Value} {base : Heap} {k : Nat} {X : ι → Cx} {O : κ → Ob} {a tg : Expr} {fa : DE}
noncomputable def z3y (f:DE):DI:=fun ρ Q=>srcL f ρ Q\/srcT f ρ Q
theorem i_lt (C:Ctx3 P w K mg base k X) (ha:E3 K X O a fa):I3 K X O tg a (z3y fa):=by
 obtain ⟨t,p,d⟩:=zsp (tg:=tg) C ha
 obtain ⟨t',p',d'⟩:=zcw (tg:=tg) C ha
 refine ⟨fun σ H R=>t σ H R\/t' σ H R,fun i pins s σ H R I h=>?_,fun j σ H ρ R Qd S q k=>?_⟩
 ·rcases h with h | h
  ·exact p i pins s σ H R I h
  ·exact p' i pins s σ H R I h
 ·rcases q with q | q
  ·exact .inl (d j σ H ρ R Qd S q k)
  ·exact .inr (d' j σ H ρ R Qd S q k)
noncomputable def ltJ (n:Nat):DJ:=fun ρ Q=>varJ n ρ Q\/newJ (srcT (vD n)) ρ Q
theorem j_lt {pos:Pos} (C:Ctx3 P w K mg base k X) (n:Nat) {x:Str} (hN:∀ i,(X i).N[n]? = some x:=by intro i;rfl) (hv:∀ i,Vis (X i).env.scope x:=by intro i;first | exact Or.inl rfl | exact Or.inr (Or.inl rfl) | exact Or.inr (Or.inr rfl)) (hd:(x == ("__debug__" : Str))=false:=by decide) (hcd:(x == ("__classdict__" : Str))=false:=by decide) :
 J3 K X O tg (.Name x pos) (ltJ n):=by
 obtain ⟨t,p,d⟩:=zie (O:=O) (tg:=tg) (pos:=pos) C n hN hv hd hcd
 obtain ⟨t',p',d'⟩:=zcj (zcw (tg:=tg) C (zaa (O:=O) (pos:=pos) n hN hv hd hcd))
 refine ⟨fun σ H R=>t σ H R\/t' σ H R,fun i pins s σ H R I h=>?_,fun j H₀ A σ H ρ R Qd r q k=>?_⟩
 ·rcases h with h | h
  ·exact p i pins s σ H R I h
  ·exact p' i pins s σ H R I h
 ·rcases q with q | q
  ·exact .inl (d j H₀ A σ H ρ R Qd r q k)
  ·exact .inr (d' j H₀ A σ H ρ R Qd r q k)
end
end L3
namespace L3
open PySem PySem.Spec
open PyProof.Rows hiding St
open L2
section
variable {prog : Program} {w : World} {A : Around} {E : Value → Shared → Prop} {s : Shared}
theorem zjp {it t:Addr} {i:Nat} {zs:Array Value} {x:Value} {Q:Value->Shared->Prop} (st:s.heap.IsTupleIter it t i) (tp:s.heap.IsTuple t zs) (hv:zs[i]? = some x) (k:∀ h',h'.IsTupleIter it t (i+1)->Heap.SameBut it s.heap h'->Q x { s with heap:=h' }) :
 wpAny (model prog w) A (Builtin.SmallTypes.nextOf (.ref it)) Q E s:=by
 obtain ⟨o,eo,co,dv⟩:=id st
 obtain ⟨u,eu,_,m,du⟩:=tp
 unfold Builtin.SmallTypes.nextOf;refine wpAny_bind (wpAny_callSpecial?_slot (name:=Str.ofString "__next__") st.typeIs F.slot_tuple_iterator_next (wpAny_call_entry F.slot_tuple_iterator_next st.typeIs F.entry_tuple_iterator_next ?_ (F.args_tuple_iterator_next_1 _)))
 refine wpAny_bind (m:=field (.ref it) 0) (wpAny_field eo dv (x := .ref t) rfl ?_)
 have ne:¬ ((Value.ref t == Value.none)=true):=Bool.false_ne_true
 show wpAny _ _ (if (Value.ref t == Value.none)=true then _ else _) _ _ s;rw [if_neg ne]
 refine wpAny_bind (m:=field (.ref it) 1) (wpAny_field eo dv (x := .int i 0) rfl ?_)
 refine wpAny_bind (m:=seqItems? (.ref t)) (wpAny_seqItems eu du ?_)
 simp only [Int.toNat_natCast,hv]
 refine wpAny_bind (wpAny_setField eo dv (by simp) (wpAny_pure ⟨x,rfl,wpAny_pure (k _ ⟨_,Heap.get?_update_self _ eo (Obj.isFreed_of_fields (Obj.data_mapFields dv _)),(Obj.cls_mapFields ..).trans co,?_⟩ (Heap.SameBut.update ..))⟩))
 rw [Obj.data_mapFields dv]
 simp [rawInt]
theorem zof {Q:Fin->Shared->Prop} (hh:A.in1.handled=none) (k:∀ h' e,(∀ c o,s.heap.get? c=some o->h'.get? c=some o)->(∃ o,h'.get? e=some o/\o.cls = .type "StopIteration")->E (.ref e) { s with heap:=h' }) :
 wpAny (model prog w) A.in1 (newExc (.type "StopIteration") []) (fun a s'=>wpAny (model prog w) A.in1 (raiseNew a) Q E s') E s:=by
 simp only [newExc,newTuple];refine wpAny_bind (wpAny_newObj_type ?_ (by size_fits))
 refine wpAny_bind (m:=firstArgMember _ _) (wpAny_of_eq (a:=Value.none) (by simp only [firstArgMember];rfl) (wpAny_newObj_type ?_ (by size_fits)))
 simp only [raiseNew];refine wpAny_bind (wpAny_handled ?_);rw [hh]
 exact wpAny_bind (wpAny_pure (wpAny_throw (k _ _ (fun c o e=>Heap.get?_push_of_some _ (Heap.get?_push_of_some _ e)) ⟨_,Heap.get?_push_size _ rfl,rfl⟩)))
theorem zsk {it t:Addr} {i:Nat} {zs:Array Value} {Q:Value->Shared->Prop} (hh:A.handled=none) (st:s.heap.IsTupleIter it t i) (tp:s.heap.IsTuple t zs) (hv:zs[i]? = none)
 (k:∀ h' e,Heap.ExtBut it s.heap h'->(∃ o,h'.get? e=some o/\o.cls = .type "StopIteration")->E (.ref e) { s with heap:=h' }):wpAny (model prog w) A (Builtin.SmallTypes.nextOf (.ref it)) Q E s:=by
 obtain ⟨o,eo,co,dv⟩:=id st
 obtain ⟨u,eu,_,m,du⟩:=tp
 unfold Builtin.SmallTypes.nextOf;refine wpAny_bind (wpAny_callSpecial?_slot (name:=Str.ofString "__next__") st.typeIs F.slot_tuple_iterator_next (wpAny_call_entry F.slot_tuple_iterator_next st.typeIs F.entry_tuple_iterator_next ?_ (F.args_tuple_iterator_next_1 _)))
 refine wpAny_bind (m:=field (.ref it) 0) (wpAny_field eo dv (x := .ref t) rfl ?_)
 have ne:¬ ((Value.ref t == Value.none)=true):=Bool.false_ne_true
 show wpAny _ _ (if (Value.ref t == Value.none)=true then _ else _) _ _ s;rw [if_neg ne]
 refine wpAny_bind (m:=field (.ref it) 1) (wpAny_field eo dv (x := .int i 0) rfl ?_)
 refine wpAny_bind (m:=seqItems? (.ref t)) (wpAny_seqItems eu du ?_)
 simp only [Int.toNat_natCast,hv]
 refine wpAny_bind (wpAny_rule (wpAny_bind (wpAny_setField eo dv (by simp) ?_)))
 refine wpAny_bind (zof hh fun h' e up ex=>?_)
 exact k h' e (fun c o' cn q=>up c o' ((Heap.SameBut.update ..).extBut c o' cn q)) ex
structure ZS (h:Heap) (z p r i1 i2 l1 l2:Addr) (k:Nat) (xs ys:Array Value) (out:Value):Prop where
 zz:IsZip h z p r out
 pp:IsPair h p (.ref i1) (.ref i2)
 rr:∃ a b,IsPair h r a b
 a1:h.IsTupleIter i1 l1 k
 a2:h.IsTupleIter i2 l2 k
 t1:h.IsTuple l1 xs
 t2:h.IsTuple l2 ys
theorem zy7 {z p r i1 i2 l1 l2:Addr} {k:Nat} {xs ys:Array Value} {x y:Value} {Q:Value->Shared->Prop} (D:ZipApart z p r i1 i2 l1 l2) (S:ZS s.heap z p r i1 i2 l1 l2 k xs ys .none) (hx:xs[k]? = some x) (hy:ys[k]? = some y)
 (q:∀ h',ZS h' z p r i1 i2 l1 l2 (k+1) xs ys (rawInt s.heap.objs.size)->IsPair h' s.heap.objs.size x y->(∀ c o,c ≠ z->c ≠ r->c ≠ i1->c ≠ i2->s.heap.get? c=some o->h'.get? c=some o)->Q (.ref s.heap.objs.size) { s with heap:=h' }) :
 wpAny (model prog w) A (Builtin.«zip.__next__» ⟨[.ref z],[]⟩) (fun fin s'=>∃ v,fin = .done (.ret v)/\Q v s') E s:=by
 obtain ⟨Z,P,⟨a,b,R⟩,A1,A2,T1,T2⟩:=S
 refine wpAny_bind (m:=field (.ref z) 2) (wpAny_field Z rfl (x := .bool false) rfl ?_)
 refine wpAny_bind (m:=field (.ref z) 3) (wpAny_field Z rfl (x := .ref p) rfl (wpAny_bind (wpAny_seqItems P rfl ?_)))
 refine wpAny_bind (m:=Builtin.SmallTypes.ownedTupleIsFree (.ref z)) ?_
 unfold Builtin.SmallTypes.ownedTupleIsFree;refine wpAny_bind (wpAny_field Z rfl (x := .none) rfl (wpAny_pure ?_));simp only [if_true]
 refine wpAny_bind (wpAny_rule (wpAny_bind (wpAny_field Z rfl (x := .ref r) rfl (wpAny_bind (wpAny_setField_rec Z (by simp) fun ha Za sa=>?_)))))
 replace Za:IsZip ha z p r .ellipsis:=Za
 refine wpAny_bind ?_;simp only [List.zipIdx_cons,List.zipIdx_nil,List.forIn_cons,List.forIn_nil]
 have A1a:=A1.at fun o e=>sa.extBut _ o D.i1z e
 have A2a:=A2.at fun o e=>sa.extBut _ o D.i2z e
 refine wpAny_bind (wpAny_bind (wpAny_onRaise (wpAny_bind (m:=Builtin.SmallTypes.nextOf (.ref i1)) (zjp A1a (T1.at fun o e=>sa.extBut _ o D.l1z e) hx fun hb A1b sb=>wpAny_pure ?_))))
 have Rb:IsPair hb r a b:=sb.extBut _ _ D.TOi1 (sa.extBut _ _ D.TOz R)
 refine wpAny_bind (wpAny_seqItems Rb rfl (wpAny_bind (wpAny_updateSeq_pair Rb fun hc Rc sc=>?_)))
 replace Rc:IsPair hc r x b:=Rc
 refine wpAny_bind (wpAny_letGo (wpAny_pure ?_))
 have A2c:=(A2a.at fun o e=>sb.extBut _ o D.i12.symm e).at fun o e=>sc.extBut _ o D.TOi2.symm e
 have T2c:=((T2.at fun o e=>sa.extBut _ o D.l2z e).at fun o e=>sb.extBut _ o D.l2i1 e).at fun o e=>sc.extBut _ o D.l2TO e
 refine wpAny_bind (wpAny_bind (wpAny_onRaise (wpAny_bind (m:=Builtin.SmallTypes.nextOf (.ref i2)) (zjp A2c T2c hy fun hd A2d sd=>wpAny_pure ?_))))
 have Rd:IsPair hd r x b:=sd.extBut _ _ D.TOi2 Rc
 refine wpAny_bind (wpAny_seqItems Rd rfl (wpAny_bind (wpAny_updateSeq_pair Rd fun he Re se=>?_)))
 replace Re:IsPair he r x y:=Re
 refine wpAny_bind (wpAny_letGo (wpAny_pure (wpAny_pure (wpAny_bind (wpAny_seqItems Re rfl (wpAny_bind (wpAny_newTuple ?_)))))))
 have sz5:he.objs.size=s.heap.objs.size:=by rw [se.1,sd.1,sc.1,sb.1,sa.1]
 have up:∀ c o,c ≠ z->c ≠ r->c ≠ i1->c ≠ i2->s.heap.get? c=some o->he.get? c=some o:=fun c o n1 n2 n3 n4 e=>se.extBut _ _ n2 (sd.extBut _ _ n4 (sc.extBut _ _ n2 (sb.extBut _ _ n3 (sa.extBut _ _ n1 e))))
 have Ze:IsZip he z p r .ellipsis:=se.extBut _ _ D.TOz.symm (sd.extBut _ _ D.i2z.symm (sc.extBut _ _ D.TOz.symm (sb.extBut _ _ D.i1z.symm Za)))
 refine wpAny_bind (m:=Builtin.SmallTypes.ownedTupleHandOut (.ref z) (.ref he.objs.size)) ?_
 unfold Builtin.SmallTypes.ownedTupleHandOut
 have zl:=Heap.lt_size Ze
 refine wpAny_bind (wpAny_setField_rec (Heap.get?_push_of_some _ Ze) (by simp) fun hf Zf sf=>?_)
 replace Zf:IsZip hf z p r (rawInt he.objs.size):=Zf
 refine wpAny_setField_rec Zf (by simp) fun hg Zg sg=>wpAny_pure ⟨_,rfl,?_⟩
 have top:∀ c o,c ≠ z->he.get? c=some o->hg.get? c=some o:=fun c o n e=>sg.extBut _ _ n (sf.extBut _ _ n (Heap.get?_push_of_some _ e))
 have pr:IsPair hg he.objs.size x y:=sg.extBut _ _ (Nat.ne_of_gt zl) (sf.extBut _ _ (Nat.ne_of_gt zl) (Heap.get?_push_size _ rfl))
 show Q (.ref he.objs.size) _
 rw [sz5] at pr Zg ⊢
 refine q hg ⟨Zg,top _ _ D.TIz (up _ _ D.TIz D.TITO D.TIi1 D.TIi2 P),⟨x,y,top _ _ D.TOz Re⟩,?_,?_,T1.at fun o e=>top _ o D.l1z (up _ o D.l1z D.l1TO D.l1i1 D.l1i2 e),T2.at fun o e=>top _ o D.l2z (up _ o D.l2z D.l2TO D.l2i1 D.l2i2 e)⟩ pr fun c o n1 n2 n3 n4 e=>top c o n1 (up c o n1 n2 n3 n4 e)
 ·exact (((A1b.at fun o e=>sc.extBut _ o D.TOi1.symm e).at fun o e=>sd.extBut _ o D.i12 e).at fun o e=>se.extBut _ o D.TOi1.symm e).at fun o e=>top _ o D.i1z e
 ·exact (A2d.at fun o e=>se.extBut _ o D.TOi2.symm e).at fun o e=>top _ o D.i2z e
theorem z0j {z p r i1 i2 l1 l2:Addr} {k:Nat} {xs ys:Array Value} {Q:Fin->Shared->Prop} (hh:A.handled=none) (D:ZipApart z p r i1 i2 l1 l2) (S:ZS s.heap z p r i1 i2 l1 l2 k xs ys .none) (he:xs[k]? = none\/ys[k]? = none)
 (q:∀ h' e,(∀ c o,c ≠ z->c ≠ r->c ≠ i1->c ≠ i2->s.heap.get? c=some o->h'.get? c=some o)->(∃ o,h'.get? e=some o/\o.cls = .type "StopIteration")->E (.ref e) { s with heap:=h' }) :
 wpAny (model prog w) A (Builtin.«zip.__next__» ⟨[.ref z],[]⟩) Q E s:=by
 obtain ⟨Z,P,⟨a,b,R⟩,A1,A2,T1,T2⟩:=S
 refine wpAny_bind (m:=field (.ref z) 2) (wpAny_field Z rfl (x := .bool false) rfl ?_)
 refine wpAny_bind (m:=field (.ref z) 3) (wpAny_field Z rfl (x := .ref p) rfl (wpAny_bind (wpAny_seqItems P rfl ?_)))
 refine wpAny_bind (m:=Builtin.SmallTypes.ownedTupleIsFree (.ref z)) ?_
 unfold Builtin.SmallTypes.ownedTupleIsFree;refine wpAny_bind (wpAny_field Z rfl (x := .none) rfl (wpAny_pure ?_));simp only [if_true]
 refine wpAny_bind (wpAny_rule (wpAny_bind (wpAny_field Z rfl (x := .ref r) rfl (wpAny_bind (wpAny_setField_rec Z (by simp) fun ha Za sa=>?_)))))
 replace Za:IsZip ha z p r .ellipsis:=Za
 refine wpAny_bind ?_;simp only [List.zipIdx_cons,List.zipIdx_nil,List.forIn_cons,List.forIn_nil]
 have A1a:=A1.at fun o e=>sa.extBut _ o D.i1z e
 have A2a:=A2.at fun o e=>sa.extBut _ o D.i2z e
 have T1a:=T1.at fun o e=>sa.extBut _ o D.l1z e
 have off:∀ {hc:Heap} {e:Addr} {oe:Obj},IsZip hc z p r .ellipsis->hc.get? e=some oe->oe.cls = .type "StopIteration" -> e ≠ z:=fun Zc g c x=>by subst x;rw [Zc] at g;cases g;simp at c
 cases hx:xs[k]? with
 | none =>
   refine wpAny_bind (wpAny_bind (wpAny_onRaise (wpAny_bind (m:=Builtin.SmallTypes.nextOf (.ref i1)) (zsk hh A1a T1a hx fun hb e sb ⟨oe,ge,ce⟩=>?_))))
   have Zb:IsZip hb z p r .ellipsis:=sb _ _ D.i1z.symm Za
   exact wpAny_setField_rec Zb (by simp) fun hc _ sc=>q hc e (fun c o n1 _ n3 _ g=>sc.extBut _ _ n1 (sb _ _ n3 (sa.extBut _ _ n1 g))) ⟨oe,sc.extBut _ _ (off Zb ge ce) ge,ce⟩
 | some x =>
   have hy:ys[k]? = none:=he.resolve_left fun z=>by rw [hx] at z;cases z
   refine wpAny_bind (wpAny_bind (wpAny_onRaise (wpAny_bind (m:=Builtin.SmallTypes.nextOf (.ref i1)) (zjp A1a T1a hx fun hb A1b sb=>wpAny_pure ?_))))
   have Rb:IsPair hb r a b:=sb.extBut _ _ D.TOi1 (sa.extBut _ _ D.TOz R)
   refine wpAny_bind (wpAny_seqItems Rb rfl (wpAny_bind (wpAny_updateSeq_pair Rb fun hc Rc sc=>?_)))
   refine wpAny_bind (wpAny_letGo (wpAny_pure ?_))
   have A2c:=(A2a.at fun o e=>sb.extBut _ o D.i12.symm e).at fun o e=>sc.extBut _ o D.TOi2.symm e
   have T2c:=((T2.at fun o e=>sa.extBut _ o D.l2z e).at fun o e=>sb.extBut _ o D.l2i1 e).at fun o e=>sc.extBut _ o D.l2TO e
   refine wpAny_bind (wpAny_bind (wpAny_onRaise (wpAny_bind (m:=Builtin.SmallTypes.nextOf (.ref i2)) (zsk hh A2c T2c hy fun hd e sd ⟨oe,ge,ce⟩=>?_))))
   have Zd:IsZip hd z p r .ellipsis:=sd _ _ D.i2z.symm (sc.extBut _ _ D.TOz.symm (sb.extBut _ _ D.i1z.symm Za))
   exact wpAny_setField_rec Zd (by simp) fun hf _ sf=>q hf e (fun c o n1 n2 n3 n4 g=>sf.extBut _ _ n1 (sd _ _ n4 (sc.extBut _ _ n2 (sb.extBut _ _ n3 (sa.extBut _ _ n1 g))))) ⟨oe,sf.extBut _ _ (off Zd ge ce) ge,ce⟩
theorem zzh {z p r i1 i2 l1 l2:Addr} {k:Nat} {xs ys:Array Value} {x y:Value} {Q:Option Value->Shared->Prop} (D:ZipApart z p r i1 i2 l1 l2) (S:ZS s.heap z p r i1 i2 l1 l2 k xs ys .none) (hx:xs[k]? = some x) (hy:ys[k]? = some y)
 (q:∀ h',ZS h' z p r i1 i2 l1 l2 (k+1) xs ys (rawInt s.heap.objs.size)->IsPair h' s.heap.objs.size x y->(∀ c o,c ≠ z->c ≠ r->c ≠ i1->c ≠ i2->s.heap.get? c=some o->h'.get? c=some o)->Q (some (.ref s.heap.objs.size)) { s with heap:=h' }):wpAny (model prog w) A (pyNext (.ref z)) Q E s:=by
 have T:s.TypeIs (.ref z) "zip" := ⟨_,S.zz,rfl⟩
 unfold pyNext;exact wpAny_bind (wpAny_attempt (wpAny_callSpecial?_slot (name:=Str.ofString "__next__") T F.slot_zip_next (wpAny_call_entry F.slot_zip_next T F.entry_zip_next (zy7 D S hx hy fun h' a b c=>wpAny_pure (q h' a b c)) (F.args_zip_next_1 _))))
theorem zyx {z p r i1 i2 l1 l2:Addr} {k:Nat} {xs ys:Array Value} {Q:Option Value->Shared->Prop} (hh:A.handled=none) (D:ZipApart z p r i1 i2 l1 l2) (S:ZS s.heap z p r i1 i2 l1 l2 k xs ys .none) (he:xs[k]? = none\/ys[k]? = none)
 (q:∀ h',(∀ c o,c ≠ z->c ≠ r->c ≠ i1->c ≠ i2->s.heap.get? c=some o->h'.get? c=some o)->Q none { s with heap:=h' }):wpAny (model prog w) A (pyNext (.ref z)) Q E s:=by
 have T:s.TypeIs (.ref z) "zip" := ⟨_,S.zz,rfl⟩
 unfold pyNext;refine wpAny_bind (wpAny_attempt (wpAny_callSpecial?_slot (name:=Str.ofString "__next__") T F.slot_zip_next (wpAny_call_entry F.slot_zip_next T F.entry_zip_next (z0j hh D S he fun h' e up ⟨o,g,c⟩=>?_) (F.args_zip_next_1 _))))
 exact wpAny_bind (wpAny_isInstance (T := "StopIteration") (b:=true) ⟨o,g,c⟩ isSubtype_stop (wpAny_pure (q _ up)))
noncomputable abbrev zq1 (h:Heap) (l1:Addr):Heap:=h.push { cls := .type "tuple_iterator", data := .fields #[.ref l1,.int 0 0] }
noncomputable abbrev zq2 (h:Heap) (l1 l2:Addr):Heap:=(zq1 h l1).push { cls := .type "tuple_iterator", data := .fields #[.ref l2,.int 0 0] }
noncomputable abbrev zq3 (h:Heap) (l1 l2:Addr):Heap:=(zq2 h l1 l2).push { cls := .type "tuple", data := .seq #[.ref h.objs.size,.ref (zq1 h l1).objs.size] }
noncomputable abbrev zq4 (h:Heap) (l1 l2:Addr):Heap:=(zq3 h l1 l2).push { cls := .type "tuple", data := .seq #[.none,.none] }
noncomputable abbrev zq5 (h:Heap) (l1 l2:Addr):Heap:=(zq4 h l1 l2).push { cls := .type "zip", data := .fields #[.none,.bool false,.bool false,.ref (zq2 h l1 l2).objs.size,.ref (zq3 h l1 l2).objs.size] }
theorem zxx (l1 l2:Addr) (xs ys:Array Value):Meets (Builtin.«zip.__new__» ⟨[.type "zip", .ref l1,.ref l2],[]⟩) (fun _ R s=>s.heap.IsTuple l1 xs/\s.heap.IsTuple l2 ys/\R (.ok (.ret (.ref (zq4 s.heap l1 l2).objs.size))) { s with heap:=zq5 s.heap l1 l2 }) :=
 .of_wp fun prog w A R s h=>by
  obtain ⟨hp,g,d,tk,os⟩:=s;obtain ⟨a1,a2,q⟩:=h
  have sub:=sub_zip
  have a3:Heap.IsTuple (Shared.heap ⟨hp.push { cls := .type "tuple_iterator", data := .fields #[.ref l1,.int 0 0] },g,d,tk,os⟩) l2 ys:=a2.at fun o e=>Heap.get?_push_of_some _ e
  have a1:Heap.IsTuple (Shared.heap ⟨hp,g,d,tk,os⟩) l1 xs:=a1
  wp_walk using wpAny_pyIter_tuple a1,wpAny_pyIter_tuple a3
  exact ⟨_,rfl,q⟩
theorem zx0 {l1 l2:Addr} {xs ys:Array Value} {Q:Value->Shared->Prop} (h1:s.heap.IsTuple l1 xs) (h2:s.heap.IsTuple l2 ys)
 (q:∀ h',ZS h' (s.heap.objs.size+4) (s.heap.objs.size+2) (s.heap.objs.size+3) s.heap.objs.size (s.heap.objs.size+1) l1 l2 0 xs ys .none->(∀ c o,s.heap.get? c=some o->h'.get? c=some o)->Q (.ref (s.heap.objs.size+4)) { s with heap:=h' }):wpAny (model prog w) A (call (.type "zip") [.ref l1,.ref l2]) Q E s:=by
 refine callType_new F.called_zip (by decide) (F.typeCall_zip_2 _ _) (F.newCall_zip_2 _ _) (fun obj=>F.args_object_init_3 obj _ _) F.entry_zip_new (zxx l1 l2 xs ys) ⟨h1,h2,?_⟩
 have n1:(zq1 s.heap l1).objs.size=s.heap.objs.size+1:=Heap.size_push ..
 have n2:(zq2 s.heap l1 l2).objs.size=s.heap.objs.size+2:=by rw [Heap.size_push,n1]
 have n3:(zq3 s.heap l1 l2).objs.size=s.heap.objs.size+3:=by rw [Heap.size_push,n2]
 have n4:(zq4 s.heap l1 l2).objs.size=s.heap.objs.size+4:=by rw [Heap.size_push,n3]
 have up:∀ {h:Heap} {c:Addr} {o o':Obj},h.get? c=some o->(h.push o').get? c=some o:=fun e=>Heap.get?_push_of_some _ e
 have e5:(zq5 s.heap l1 l2).get? (zq4 s.heap l1 l2).objs.size=some _:=Heap.get?_push_size _ rfl
 have e4:(zq5 s.heap l1 l2).get? (zq3 s.heap l1 l2).objs.size=some _:=up (Heap.get?_push_size _ rfl)
 have e3:(zq5 s.heap l1 l2).get? (zq2 s.heap l1 l2).objs.size=some _:=up (up (Heap.get?_push_size _ rfl))
 have e2:(zq5 s.heap l1 l2).get? (zq1 s.heap l1).objs.size=some _:=up (up (up (Heap.get?_push_size _ rfl)))
 have e1:(zq5 s.heap l1 l2).get? s.heap.objs.size=some _:=up (up (up (up (Heap.get?_push_size _ rfl))))
 have all:∀ c o,s.heap.get? c=some o->(zq5 s.heap l1 l2).get? c=some o:=fun c o e=>up (up (up (up (up e))))
 show _/\_
 rw [n2,n3,n4] at e5
 rw [n1,n2] at e3
 rw [n3] at e4
 rw [n1] at e2
 rw [n4]
 exact ⟨⟨_,e5,rfl⟩,q _ ⟨e5,e3,⟨_,_,e4⟩,⟨_,e1,rfl,rfl⟩,⟨_,e2,rfl,rfl⟩,h1.at fun o e=>all _ o e,h2.at fun o e=>all _ o e⟩ all⟩
theorem zu6 (n l1 l2:Nat) (h1:l1<n) (h2:l2<n):ZipApart (n+4) (n+2) (n+3) n (n+1) l1 l2:=by
 have ne:∀ {a b:Nat},a<b\/b<a->(a:Addr) ≠ b:=fun h e=>by rcases h with h | h <;> exact Nat.lt_irrefl _ (e ▸ h)
 constructor <;> (refine ne ?_;lia)
end
end L3
namespace L3
open PySem PySem.Spec
open PyProof.Rows hiding St
open L2
section
variable {X : Cx} {pins : List (Addr × Obj)} {σ : L2.St} {H : Hp} {s : Shared} {h' : Heap} {t' : Nat}
theorem zss {fp:List Addr} (I:Inv X pins σ H s) (hf:∀ b ∈ fp,FpOk X pins H b) (k:∀ b o,b ∉ fp->s.heap.get? b=some o->h'.get? b=some o):Inv X pins σ H { s with heap:=h',toks:=t' }:=by
 have nit:∀ b u,H b=some u->b ∉ fp:=fun b u e z=>by rw [(hf b z).1] at e;cases e
 refine I.step (g':=s.gens) (d':=s.drawn) (ch:=fp) (fun b hb=>let ⟨_,a,_,b,c,d⟩:=hf b hb; ⟨b,a,c,d⟩) (fun b o _ _ hc e _=>k b o hc e) (fun b o _ _ hc e _=>⟨o.slots,k b o hc e⟩) (fun _ _ _ _ n=>n) (fun b o hc e=>⟨o,k b o hc e⟩) (fun _ _ e=>e) (fun _ _ _ e=>e) (fun b ps e=>⟨#[],by rw [e];simp⟩)
  (fun m ⟨o,es,ep,ho,r⟩=>⟨o,es,ep,k _ o (fun z=>(hf _ z).2.1 rfl) ho,r⟩) (fun b u e=>(I.hok b u e).stay (fun c v hc q=>k c v ?_ q) (fun _ q=>q) fun _ _ q=>q) I.bare
 rcases hc with z | z
 ·rw [z];exact nit b u e
 ·exact nit c _ z
theorem zr0 {fp:List Addr} {a:Addr} {o:HO} (I:Inv X pins σ H s) (hf:∀ b ∈ fp,FpOk X pins H b) (k:∀ b o,b ∉ fp->s.heap.get? b=some o->h'.get? b=some o) (hp:s.heap.objs.size<=a) (new:ObjOk X.prog X.w (upd H a o) h' a o):Inv X pins σ (upd H a o) { s with heap:=h',toks:=t' }:=by
 have nit:∀ b u,H b=some u->b ∉ fp:=fun b u e z=>by rw [(hf b z).1] at e;cases e
 have hn:=I.hok.fresh hp
 have na:∀ b u,H b=some u->b ≠ a:=fun b u e z=>by rw [z,hn] at e;cases e
 have nb:∀ b (o:Obj),s.heap.get? b=some o->b ≠ a:=fun b o e z=>Nat.lt_irrefl _ (Nat.lt_of_lt_of_le (Heap.lt_size e) (z ▸ hp))
 refine I.step (g':=s.gens) (d':=s.drawn) (ch:=fp) (fun b hb=>let ⟨_,a,_,b,c,d⟩:=hf b hb; ⟨b,a,c,d⟩) (fun b o _ _ hc e _=>k b o hc e) (fun b o _ _ hc e _=>⟨o.slots,k b o hc e⟩) (fun b o _ e n=>by rw [zad (nb b o e)];exact n) (fun b o hc e=>⟨o,k b o hc e⟩) (fun b _ e=>by rw [zad (na b _ e)];exact e) (fun b _ _ e=>by rw [zad (na b _ e)];exact e) (fun b ps e=>⟨#[],by rw [zad (na b _ e),e];simp⟩)
  (fun m ⟨o,es,ep,ho,r⟩=>⟨o,es,ep,k _ o (fun z=>(hf _ z).2.1 rfl) ho,r⟩) (fun b u e=>?_) I.bare
 by_cases hb:b=a
 ·subst hb;rw [zai] at e;cases e;exact new
 ·rw [zad hb] at e
  refine (I.hok b u e).stay (fun c v hc q=>k c v ?_ q) (fun c q=>by rw [zad (na c _ q)];exact q) fun c xs q=>by rw [zad (na c _ q)];exact q
  rcases hc with z | z
  ·rw [z];exact nit b u e
  ·exact nit c _ z
end
noncomputable def Itz (K:PySem.W.Frag) (l1 l2:Addr):It :=
 ⟨fun i H=>∃ xs ys x y,SqT K H l1 xs/\SqT K H l2 ys/\xs[i]? = some x/\ys[i]? = some y,
  fun i H x H'=>∃ a u v,H a=none/\(∀ xs,SqT K H l1 xs->xs[i]? = some u)/\(∀ ys,SqT K H l2 ys->ys[i]? = some v)/\x = .ref a/\H'=upd H a (.tup [u,v]),
  fun i H=>∃ xs ys,SqT K H l1 xs/\SqT K H l2 ys/\(xs.length<=i\/ys.length<=i)⟩
structure ZO (h:Heap) (z p r i1 i2 l1 l2:Addr) (k:Nat):Prop where
 zz:IsZip h z p r .none
 pp:IsPair h p (.ref i1) (.ref i2)
 rr:∃ a b,IsPair h r a b
 a1:h.IsTupleIter i1 l1 k
 a2:h.IsTupleIter i2 l2 k
theorem zwb {P:Program} {w:World} {K:PySem.W.Frag} {elts:List Expr} {x1:Nat} {pos:Pos} (z p r i1 i2 l1 l2:Addr) (D:ZipApart z p r i1 i2 l1 l2) :
 Turn P w K (.Tuple elts x1 pos) (Itz K l1 l2) [z,p,r,i1,i2] z (fun i h=>ZO h z p r i1 i2 l1 l2 i) where
 mem:=by simp
 obj:=fun i h st b hb=>by
  obtain ⟨a,c,⟨u,v,d⟩,⟨o1,e1,_,f1⟩,⟨o2,e2,_,f2⟩⟩:=st
  simp only [List.mem_cons,List.not_mem_nil,or_false] at hb
  rcases hb with rfl | rfl | rfl | rfl | rfl
  ·exact ⟨_,a,fun v z=>by cases z⟩
  ·exact ⟨_,c,fun v z=>by cases z⟩
  ·exact ⟨_,d,fun v z=>by cases z⟩
  ·exact ⟨_,e1,fun v z=>by rw [f1] at z;cases z⟩
  ·exact ⟨_,e2,fun v z=>by rw [f2] at z;cases z⟩
 keep:=fun i h h' st k=>by
  obtain ⟨a,c,⟨u,v,d⟩,e,f⟩:=st
  exact ⟨k z (by simp) _ a,k p (by simp) _ c,⟨u,v,k r (by simp) _ d⟩,e.at fun o g=>k i1 (by simp) o g,f.at fun o g=>k i2 (by simp) o g⟩
 item:=by
  intro X hP hw hK hc i pins s σ H E I hf st hg
  subst hP hw hK
  obtain ⟨xs,ys,x,y,q1,q2,hx,hy⟩:=hg
  obtain ⟨us,ru,tu,_⟩:=I.tuple q1
  obtain ⟨vs,rv,tv,_⟩:=I.tuple q2
  obtain ⟨u,hu,ru⟩:=ru.get hx
  obtain ⟨v,hv,rv⟩:=rv.get hy
  have S:ZS s.heap z p r i1 i2 l1 l2 i us.toArray vs.toArray .none:=⟨st.zz,st.pp,st.rr,st.a1,st.a2,tu,tv⟩
  have lt:∀ b ∈ [z,p,r,i1,i2],b ≠ s.heap.objs.size:=fun b hb e=>by
   have:b<s.heap.objs.size:=by
    obtain ⟨o1,e1,_,_⟩:=st.a1
    obtain ⟨o2,e2,_,_⟩:=st.a2
    obtain ⟨a,b',er⟩:=st.rr
    simp only [List.mem_cons,List.not_mem_nil,or_false] at hb
    rcases hb with rfl | rfl | rfl | rfl | rfl
    ·exact Heap.lt_size st.zz
    ·exact Heap.lt_size st.pp
    ·exact Heap.lt_size er
    ·exact Heap.lt_size e1
    ·exact Heap.lt_size e2
   exact Nat.lt_irrefl _ (e ▸ this)
  refine zzh D S (x:=u) (y:=v) (by simpa using hu) (by simpa using hv) fun h1 S1 hp up=>⟨_,rfl,?_⟩
  refine wpAny_letOwnedTupleGo_zip S1.zz fun h2 Z2 sb=>?_
  have n0:=lt z (by simp)
  have up2:∀ b o,b ∉ [z,p,r,i1,i2]->s.heap.get? b=some o->h2.get? b=some o:=fun b o hb e=>by
   simp only [List.mem_cons,List.not_mem_nil,or_false,not_or] at hb
   exact (sb.2 b hb.1).trans (up b o hb.1 hb.2.2.1 hb.2.2.2.1 hb.2.2.2.2 e)
  have P2:IsPair h2 s.heap.objs.size u v:=(sb.2 _ (Ne.symm n0)).trans hp
  have sL:=sizeLine_eq
  refine ⟨.ref s.heap.objs.size,_,zr0 (s:=s) (t':=s.toks) I hf up2 (Nat.le_refl _) (o := .tup [x,y]) ⟨by show 2<=sizeLine;lia,[u,v],.cons ru (.cons rv .nil),⟨_,P2,rfl,_,rfl⟩⟩,rfl,⟨_,x,y,I.hok.fresh (Nat.le_refl _),fun zs hz=>by rw [I.tuple_inj hz q1];exact hx,fun zs hz=>by rw [I.tuple_inj hz q2];exact hy,rfl,rfl⟩,⟨Z2,(sb.2 p D.TIz).trans S1.pp,?_,S1.a1.at fun o g=>(sb.2 i1 D.i1z).trans g,S1.a2.at fun o g=>(sb.2 i2 D.i2z).trans g⟩,fun b hb=>?_⟩
  ·obtain ⟨a,b,e⟩:=S1.rr
   exact ⟨a,b,(sb.2 r D.TOz).trans e⟩
  ·rw [zad (lt b hb)]
   exact (hf b hb).1
 done:=by
  intro X hP hw hK hc i pins s σ H E I hf st hg
  subst hP hw hK
  obtain ⟨xs,ys,q1,q2,hx⟩:=hg
  obtain ⟨us,ru,tu,_⟩:=I.tuple q1
  obtain ⟨vs,rv,tv,_⟩:=I.tuple q2
  have lu:=ru.length
  have lv:=rv.length
  have S:ZS s.heap z p r i1 i2 l1 l2 i us.toArray vs.toArray .none:=⟨st.zz,st.pp,st.rr,st.a1,st.a2,tu,tv⟩
  refine zyx (I.ok.hd hc) D S (hx.imp (fun h=>by simp;lia) fun h=>by simp;lia) fun h1 up=>⟨rfl,zss (t':=s.toks) I hf fun b o hb e=>?_⟩
  simp only [List.mem_cons,List.not_mem_nil,or_false,not_or] at hb
  exact up b o hb.1 hb.2.2.1 hb.2.2.2.1 hb.2.2.2.2 e
 self:=fun _ _ _ _ _ st h=>wpAny_pyIter_zip st.zz h
noncomputable def iZip (K:PySem.W.Frag) (t:TA):TI:=fun σ H R=>t σ H fun vs H1=>∃ a b,vs = [.ref a,.ref b]/\(∃ xs,SqT K H1 a xs)/\(∃ ys,SqT K H1 b ys)/\R (Itz K a b) H1
theorem z1h:bootBuiltins "zip" = some (.type "zip"):=by decide +kernel
theorem z2k {X:Cx} {elts:List Expr} {x1:Nat} {pos p1 p2:Pos} {a b:Expr} {ta:TA} (gE:Gl X "zip") (mE:X.mg "zip" = none) (ha:PA X [a,b] ta) (hs:starEach [a,b] X.env=(false,eval a X.env)::starEach [b] X.env:=by rfl) (hp:(backTo p2 (starEach [b] X.env)).any (·.1)=false:=by rfl):PI X (.Tuple elts x1 pos) (.Call (.Name "zip" p1) [a,b] [] p2) (iZip X.K ta):=by
 intro pins s σ H R I h
 refine Call_ (zc0 I gE mE z1h (PyProof.Rows.callWith_type1 (thn (ha p2 pins s σ H _ I h) fun us s1 ⟨vs,H1,I1,r1,q1⟩=>?_) hs hp))
 obtain ⟨a,b,e,⟨xs,qa⟩,⟨ys,qb⟩,q⟩:=q1
 subst e
 obtain ⟨u,v,rfl,ru,rv⟩:=Vals.two r1
 obtain rfl:u=Value.ref a:=ru
 obtain rfl:v=Value.ref b:=rv
 obtain ⟨us,ru,tu,_⟩:=I1.tuple qa
 obtain ⟨vs,rv,tv,_⟩:=I1.tuple qb
 have la:a<s1.heap.objs.size:=by obtain ⟨o,e,_⟩:=tu;exact Heap.lt_size e
 have lb:b<s1.heap.objs.size:=by obtain ⟨o,e,_⟩:=tv;exact Heap.lt_size e
 refine zx0 tu tv fun h' S up=>wpAny_pyIter_zip S.zz ?_
 refine ⟨_,[s1.heap.objs.size+4,s1.heap.objs.size+2,s1.heap.objs.size+3,s1.heap.objs.size,s1.heap.objs.size+1],_,Itz X.K a b,H1,rfl,I1.kept (t':=s1.toks) up,zwb _ _ _ _ _ a b (zu6 _ _ _ la lb),⟨S.zz,S.pp,S.rr,S.a1,S.a2⟩,fun c hc=>?_,q⟩
 have le:s1.heap.objs.size<=c:=by
  simp only [List.mem_cons,List.not_mem_nil,or_false] at hc
  rcases hc with rfl | rfl | rfl | rfl | rfl <;> first | exact Nat.le_refl _ | exact Nat.le_add_right _ _
 exact I1.fpOk le (I1.hok.fresh le)
section
variable {K : PySem.W.Frag} {O : Ob}
noncomputable def zipD:List PyData->List PyData->List PyData
 | d::ds,e::es => .tuple [d,e]::zipD ds es
 | _,_ => []
theorem zh2:∀ ds es:List PyData,(zipD ds es).length=min ds.length es.length
 | [],_=>by simp [zipD]
 | _::_,[]=>by simp [zipD]
 | _::ds,_::es=>by rw [zipD,List.length_cons,zh2 ds es,List.length_cons,List.length_cons,Nat.succ_min_succ]
theorem zhu:∀ {ds es:List PyData} {i:Nat} {d:PyData},(zipD ds es)[i]? = some d->∃ a b,ds[i]? = some a/\es[i]? = some b/\d = .tuple [a,b]
 | [],_,i,d,h=>by simp [zipD] at h
 | _::_,[],i,d,h=>by simp [zipD] at h
 | a::ds,b::es,0,d,h=>by
   rw [zipD,List.getElem?_cons_zero] at h
   cases h
   exact ⟨a,b,rfl,rfl,rfl⟩
 | a::ds,b::es,i+1,d,h=>by
   rw [zipD,List.getElem?_cons_succ] at h
   obtain ⟨x,y,h1,h2,h3⟩:=zhu h
   exact ⟨x,y,h1,h2,h3⟩
theorem znk {ds:List PyData} {i:Nat} {d:PyData} (h:flats ds=true) (e:ds[i]? = some d):flat d=true:=by
 induction ds generalizing i with
 | nil=>cases e
 | cons x ds ih =>
   rw [flats,Bool.and_eq_true] at h
   cases i with
   | zero=>cases e;exact h.1
   | succ i=>exact ih h.2 e
noncomputable def srcZ (g:DA):DI:=fun ρ Q=>g ρ fun vs=>∃ ds es,vs = [.tuple ds,.tuple es]/\flats ds=true/\flats es=true/\Q true (zipD ds es)
theorem zx3 {t:TA} {g:DA} (h:AD K O t g):SrcS K O (iZip K t) (srcZ g):=fun σ H ρ R Qd S hf k=>by
 refine h σ H ρ _ _ S hf fun vs H1 ds st is ⟨es,fs,e,f1,f2,q⟩=>?_
 subst e
 cases is with
 | cons i1 is =>
   cases is with
   | cons i2 is =>
     cases is
     cases i1 with
     | tuple ha hs =>
       rename_i a xs
       cases i2 with
       | tuple hb ht =>
         rename_i b ys
         have l1:=hs.length
         have l2:=ht.length
         refine ⟨a,b,rfl,⟨xs,ha⟩,⟨ys,hb⟩,k (Itz K a b) H1 (zipD es fs) (fun _=>False) true ⟨st,fun b hb=>hb.elim,fun H2 i kb t2 hi=>?_,fun H2 i d kb t2 hd c=>?_⟩ (fun z b hb=>hb.elim) q⟩
         ·rw [zh2] at hi
          exact ⟨xs,ys,SqT.stay t2 ha,SqT.stay t2 hb,by lia⟩
         ·obtain ⟨x,y,h1,h2,rfl⟩:=zhu hd
          have fx:=znk f1 h1
          have fy:=znk f2 h2
          obtain ⟨u,hu,iu⟩:=zey (O:=O) hs h1 t2 (.inl fx)
          obtain ⟨v,hv,iv⟩:=zey (O:=O) ht h2 t2 (.inl fy)
          have q1:SqT K H2 a xs:=SqT.stay t2 ha
          have q2:SqT K H2 b ys:=SqT.stay t2 hb
          refine ⟨⟨xs,ys,u,v,q1,q2,hu,hv⟩,fun w H3 ⟨c',u',v',hc',e1,e2,ex,e3⟩=>?_⟩
          have sm:Same H2 H3:=by rw [e3];exact L3.same_new hc' _
          subst ex
          have e1:=e1 xs q1
          have e2:=e2 ys q2
          rw [hu] at e1
          rw [hv] at e2
          cases e1
          cases e2
          have fl:flat (.tuple [x,y])=true:=by show (flat x && (flat y && true))=true;rw [fx,fy];rfl
          have mv:∀ {d:PyData} {z:V},Is K (fun a=>¬ O.M a/\(flat d=true\/∃ o,H1 a=some o)) H2 z d->Is K (fun a=>¬ O.M a/\(flat (.tuple [x,y])=true\/∃ o,H1 a=some o)) H3 z d:=fun iz =>
           iz.to (fun c zs f q=>⟨⟨f.1,.inl fl⟩,sm _ _ q⟩) fun c zs q=>by
            rcases q with (q | ⟨ob,q⟩) | q
            ·exact .inl (.inl (sm _ _ q))
            ·exact .inl (.inr ⟨ob,sm _ _ q⟩)
            ·exact .inr q
          refine ⟨sm,.tuple (xs := [u,v]) (.inl (.inl ?_)) (.cons (mv iu) (.cons (mv iv) .nil))⟩
          rw [e3]
          exact zai
end
section
variable {ι κ : Type} {P : Program} {w : World} {K : PySem.W.Frag} {mg : Str → Option Value} {base : Heap} {k : Nat} {X : ι → Cx} {O : κ → Ob} {a b : Expr} {ga : DA} {pos p1 p2 : Pos} {elts : List Expr} {x1 : Nat}
theorem z3l (C:Ctx3 P w K mg base k X) (B:Blt mg) (ha:A3 K X O [a,b] ga) (hg:∀ i,Gl (X i) "zip" := by intro i;rfl) (hs:∀ i,starEach [a,b] (X i).env=(false,eval a (X i).env)::starEach [b] (X i).env:=by intro i;rfl) (hp:∀ i,(backTo p2 (starEach [b] (X i).env)).any (·.1)=false:=by intro i;rfl):I3 K X O (.Tuple elts x1 pos) (.Call (.Name "zip" p1) [a,b] [] p2) (srcZ ga) :=
 let ⟨_,q,d⟩:=ha; ⟨iZip K _,fun i=>by have h:=z2k (elts:=elts) (x1:=x1) (pos:=pos) (p1:=p1) (p2:=p2) (hg i) (by rw [C.hmg];exact B.zip) (q i) (hs i) (hp i);rw [C.hK] at h;exact h,fun j=>zx3 (d j)⟩
end
end L3
namespace L3
open PySem PySem.Spec
open PyProof.Rows hiding St
open L2
noncomputable def DdOk (w:World) (ks:List PyData) (a:Addr) (xs:List V) (h:Heap):Prop :=
 (a == sysModules)=false/\ks.length<=sizeLine/\ks.Nodup/\(∀ k ∈ ks,HK.DKey k)/\∃ zs:List (PyData × Addr × Value),zs.map (·.1)=ks/\Vals xs (zs.map (fun z=>Value.ref z.2.1)++zs.map (fun z=>z.2.2)) /\
  ∃ o es ep,h.get? a=some o/\o.ExactDict/\o.data = .dict es ep/\es.toList=zs.map fun z=>(⟨HK.hD w z.1,.ref z.2.1,z.2.2⟩:DictEntry)
noncomputable def ddO (w:World) (ks:List PyData) (a:Addr) (xs:List V):HO := .ext (DdOk w ks a xs)
theorem zj4 {w:World} {ks:List PyData} {a:Addr} {xs:List V}:OwnO (ddO w ks a xs) := .ext
theorem zlp {P:Program} {w w':World} {H:Hp} {h:Heap} {ks:List PyData} {a:Addr} {xs:List V} (x:DdOk w' ks a xs h):ObjOk P w H h a (ddO w' ks a xs):=by
 obtain ⟨h1,h2,h3,h4,zs,h5,h6,o,es,ep,h7,h8⟩:=id x
 refine ⟨x,⟨o,h7⟩,fun g1 g2 y e=>?_⟩
 obtain ⟨h1,h2,h3,h4,zs,h5,h6,o,es,ep,h7,h8⟩:=y
 exact ⟨h1,h2,h3,h4,zs,h5,h6,o,es,ep,e _ h7,h8⟩
theorem zgl {h:Heap}:∀ {us:List Value} {ds:List PyData} {as:List Addr} {i:Nat} {u:Value},ReadsAll h us ds as->us[i]? = some u->∃ d bs,ds[i]? = some d/\Reads h u d bs
 | _::_,_,_,0,_,.cons r _,e=>by cases e;exact ⟨_,_,rfl,r⟩
 | _::_,_,_,i+1,_,.cons _ t,e=>by
   obtain ⟨d,bs,h1,h2⟩:=zgl (i:=i) t (by simpa using e)
   exact ⟨d,bs,by simpa using h1,h2⟩
section
variable {X : Cx} {pins : List (Addr × Obj)} {σ : St} {H : Hp} {s : Shared} {a : Addr} {ks vs : List PyData} {xs : List V} {F : Addr → Prop}
theorem zln (I:Inv X pins σ H s) (e:H a=some (ddO X.w ks a xs)) (is:IsAll X.K F H xs (ks++vs)):(a == sysModules)=false/\ks.length<=sizeLine/\ks.Nodup/\(∀ k ∈ ks,HK.DKey k) /\
 ∃ zs:List (PyData × Addr × Value),zs.map (·.1)=ks/\Vals xs (zs.map (fun z=>Value.ref z.2.1)++zs.map (fun z=>z.2.2))/\s.heap.DictOfH (HK.dataKind X.prog X.w) a zs:=by
 obtain ⟨h1,h2,h3,h4,zs,h5,h6,o,es,ep,h7,h8,h9,h10⟩:=(show ObjOk X.prog X.w H s.heap a (ddO X.w ks a xs) from I.hok a _ e).1
 refine ⟨h1,h2,h3,h4,zs,h5,h6,o,es,ep,h7,h8,h9,h10,fun z hz=>?_,by rw [h5];exact h3⟩
 obtain ⟨as,ra⟩:=IsAll.reads I is h6
 obtain ⟨i,hi⟩:=List.mem_iff_getElem?.mp hz
 have il:i<zs.length:=(List.getElem?_eq_some_iff.mp hi).1
 obtain ⟨d,bs,hd,r⟩:=zgl (i:=i) (u := .ref z.2.1) ra (by rw [List.getElem?_append_left (by simpa using il),List.getElem?_map,hi];rfl)
 have hk:ks[i]? = some z.1:=by rw [<- h5,List.getElem?_map,hi];rfl
 rw [List.getElem?_append_left (by rw [<- h5];simpa using il),hk] at hd
 cases hd
 exact ⟨h4 _ (List.mem_of_getElem? hk),bs,r⟩
theorem zg7 (I:Inv X pins σ H s) {y:V} {u:Value} {k:PyData} (hk:HK.DKey k) (is:Is X.K F H y k) (ry:RelV y u):∃ b,y = .ref b/\u = .ref b/\(HK.dataKind X.prog X.w).is s.heap k b:=by
 obtain ⟨as,r⟩:=Is.reads I is ry
 obtain ⟨ds,e⟩:=hk.tu
 subst e
 cases is with
 | tuple q rs =>
   cases ry
   exact ⟨_,rfl,rfl,hk,as,r⟩
theorem zz8 {zs:List (PyData × Addr × Value)} (h5:zs.map (·.1)=ks) (nd:ks.Nodup) {k:PyData} {i:Nat} (hi:ks[i]? = some k):∃ p,zs[i]? = some (k,p)/\atKey zs k=some p:=by
 rw [<- h5,List.getElem?_map] at hi
 obtain ⟨⟨k',p⟩,hz,rfl⟩:=Option.map_eq_some_iff.mp hi
 exact ⟨p,hz,atKey_of_get (by rw [h5];exact nd) hz⟩
theorem zhp {zs:List (PyData × Addr × Value)} (h5:zs.map (·.1)=ks) (nd:ks.Nodup) {k:PyData}:(atKey zs k).isSome=decide (k ∈ ks):=by
 by_cases h:k ∈ ks
 ·obtain ⟨i,hi⟩:=List.mem_iff_getElem?.mp h
  obtain ⟨p,_,e⟩:=zz8 h5 nd hi
  rw [e,decide_eq_true h]
  rfl
 ·rw [decide_eq_false h,atKey_none_of_get fun j p e=>h ?_]
  ·rfl
  ·rw [<- h5]
   exact List.mem_map.mpr ⟨_,List.mem_of_getElem? e,rfl⟩
end
noncomputable def zsd (w:World):TE:=fun _ H Q=>∀ p,H p=none->Q (.ref p) (upd H p (ddO w [] p []))
noncomputable def zw2 (w:World) (K:PySem.W.Frag) (ty td:TE):TE:=fun σ H Q=>ty σ H fun y H1=>td σ H1 fun x H2=>∃ (a:Addr) (ks vs:List PyData) (xs:List V) (F:Addr->Prop) (k:PyData),x = .ref a/\H2 a=some (ddO w ks a xs)/\IsAll K F H2 xs (ks++vs) /\
 Is K F H2 y k/\HK.DKey k/\Q (.bl (decide (k ∈ ks))) H2
noncomputable def zmj (w:World) (K:PySem.W.Frag) (ty td:TE):TE:=fun σ H Q=>ty σ H fun y H1=>td σ H1 fun x H2=>∃ (a:Addr) (ks vs:List PyData) (xs:List V) (F:Addr->Prop) (k:PyData),x = .ref a/\H2 a=some (ddO w ks a xs)/\IsAll K F H2 xs (ks++vs) /\
 Is K F H2 y k/\HK.DKey k/\Q (.bl (!decide (k ∈ ks))) H2
noncomputable def zsr (w:World) (K:PySem.W.Frag) (td ty tv:TE):TS:=fun D σ H=>tv σ H fun v H1=>td σ H1 fun x H2=>ty σ H2 fun y H3=>∃ (a:Addr) (ks vs:List PyData) (us ys:List V) (F:Addr->Prop) (k:PyData),x = .ref a/\H3 a=some (ddO w ks a (us++ys))/\us.length=ks.length/\IsAll K F H3 (us++ys) (ks++vs) /\
 Is K F H3 y k/\HK.DKey k/\k ∉ ks/\ks.length<sizeLine/\D.nx σ (upd H3 a (ddO w (ks ++ [k]) a ((us ++ [y])++(ys ++ [v]))))
section
variable {X : Cx} {o i e value : Expr} {pos pos' : Pos} {td ty tv : TE}
theorem zv1:PE X (.Dict [] [] pos) (zsd X.w):=fun pins s σ H Q I h =>
 wpAny_Dict_empty ⟨.ref s.heap.objs.size,_,I.laid (a:=s.heap.objs.size) (o:=ddO X.w [] s.heap.objs.size []) (t':=s.toks) (fun _ _ q=>Heap.get?_push_of_some _ q) (Nat.le_refl _)
  (zlp ⟨beq_eq_false_iff_ne.mpr (Ne.symm (Nat.ne_of_lt I.big)),Nat.zero_le _,List.nodup_nil,fun _ z=>(nomatch z),[],rfl,(show Vals [] [] from .nil),_,#[],0,Heap.get?_push_size _ rfl,⟨rfl,rfl,rfl⟩,rfl,rfl⟩),rfl,h _ (I.hok.fresh (Nat.le_refl _))⟩
theorem zzg (hu:X.A.units+64<cLine) (hi:PE X i ty) (ho:PE X o td):PC X .In i o (zw2 X.w X.K ty td):=by
 intro pins s σ H Q I h
 refine thn (hi pins s σ H _ I h) fun iv s1 ⟨y,H1,I1,ry,q1⟩=>thn (ho pins s1 σ H1 _ I1 q1) fun u s2 zz=>?_
 obtain ⟨x,H2,I2,rx,a,ks,vs,xs,F,k,ex,g,is,iy,hk,q2⟩:=zz
 subst ex
 obtain rfl:u=Value.ref a:=rx
 obtain ⟨hd,z,nd,dk,zs,h5,h6,D⟩:=zln I2 g is
 obtain ⟨b,rfl,rfl,kb⟩:=zg7 I2 hk iy ry
 refine wpAny_in_heap (show _+16<cLine by show X.A.units+1+16<cLine;lia) kb hd D ?_
 rw [zhp h5 nd]
 exact ⟨.bl (decide (k ∈ ks)),H2,I2.tok _,rfl,q2⟩
theorem zqe (hu:X.A.units+64<cLine) (hi:PE X i ty) (ho:PE X o td):PC X .NotIn i o (zmj X.w X.K ty td):=by
 intro pins s σ H Q I h
 refine thn (hi pins s σ H _ I h) fun iv s1 ⟨y,H1,I1,ry,q1⟩=>thn (ho pins s1 σ H1 _ I1 q1) fun u s2 zz=>?_
 obtain ⟨x,H2,I2,rx,a,ks,vs,xs,F,k,ex,g,is,iy,hk,q2⟩:=zz
 subst ex
 obtain rfl:u=Value.ref a:=rx
 obtain ⟨hd,z,nd,dk,zs,h5,h6,D⟩:=zln I2 g is
 obtain ⟨b,rfl,rfl,kb⟩:=zg7 I2 hk iy ry
 refine wpAny_notIn_heap (show _+16<cLine by show X.A.units+1+16<cLine;lia) kb hd D ?_
 rw [zhp h5 nd]
 exact ⟨.bl (!decide (k ∈ ks)),H2,I2.tok _,rfl,q2⟩
theorem zuz (hu:X.A.units+64<cLine) (ho:PE X o td) (hi:PE X i ty) (hv:PE X value tv) (hs:swapsWith value (some (.Subscript o i pos')) pos.line X.env=pure false) :
 PS X (.Assign [.Subscript o i pos'] value pos) (zsr X.w X.K td ty tv):=by
 intro pins s σ H D I h
 refine wpAny_Assign_Subscript (thn (hv pins s σ H _ I h) fun r s1 ⟨v,H1,I1,rv,q1⟩=>thn (ho pins s1 σ H1 _ I1 q1) fun u s2 ⟨x,H2,I2,rx,q2⟩=>thn (hi pins s2 σ H2 _ I2 q2) fun iv s3 zz=>?_) hs
 obtain ⟨y,H3,I3,ry,a,ks,vs,us,ys,F,k,ex,g,lu,is,iy,hk,nk,hz,q3⟩:=zz
 subst ex
 obtain rfl:u=Value.ref a:=rx
 obtain ⟨hd,z,nd,dk,zs,h5,h6,Dd⟩:=zln I3 g is
 obtain ⟨b,rfl,rfl,kb⟩:=zg7 I3 hk iy ry
 have l5:zs.length=ks.length:=by rw [<- h5,List.length_map]
 have none:atKey zs k = .none:=by
  have:=zhp h5 nd (k:=k)
  rw [decide_eq_false nk] at this
  cases hh:atKey zs k
  ·rfl
  ·rw [hh] at this;cases this
 refine wpAny_setItem_heap (hsz:=by lia) (show _+16<cLine by show X.A.units+1+16<cLine;lia) kb Dd fun h' D' sb=>⟨σ,_,?_,q3⟩
 rw [storedH_new none] at D'
 obtain ⟨q,es,ep,hq,e2,e3,e4,_,e5⟩:=D'
 refine zoo I3 (by rw [g];exact True.intro) sb ⟨q,hq⟩ (zlp ⟨hd,by simp;lia,?_,?_,zs ++ [(k,b,r)],by rw [List.map_append,h5];rfl,?_,q,es,ep,hq,e2,e3,e4⟩)
 ·rw [List.map_append,h5] at e5
  exact e5
 ·intro k' hk'
  rcases List.mem_append.mp hk' with z | z
  ·exact dk k' z
  ·rw [List.mem_singleton.mp z];exact hk
 ·have hu:=h6.take zs.length
  have hy:=h6.drop zs.length
  rw [List.take_append_of_le_length (by lia),List.take_of_length_le (by lia),List.take_append_of_le_length (by simp),List.take_of_length_le (by simp)] at hu
  rw [show zs.length=us.length by lia,List.drop_left,show us.length=(zs.map fun z=>Value.ref z.2.1).length by simp;lia,List.drop_left] at hy
  rw [List.map_append,List.map_append]
  exact (hu.append (.cons (show RelV (.ref b) (.ref b) from rfl) .nil)).append (hy.append (.cons rv .nil))
end
end L3
namespace L3
open PySem PySem.Spec
open PyProof.Rows hiding St
open L2
section
variable {K : PySem.W.Frag} {O : Ob} {H₀ H H' : Hp} {A : Nat → Addr → Prop} {σ : St} {ρ : DSt}
theorem Rep.setGen {i:Nat} {a:Addr} {xs:List V} {ds:List PyData} {f:Addr->List V->HO} (r:Rep K O H₀ A H σ ρ) (s:Stp O H H') (hn:H a=Option.none) (hl:H' a=some (f a xs)) (ho:OwnO (f a xs)) (hf:IsAll K (unM O) H' xs ds) (fl:flats ds=true) :
 Rep K O H₀ (fun j b=>(j ≠ i/\A j b)\/(j=i/\b=a)) H' (σ.set i (some (.ref a))) (ρ.set i (some (.gen f ds))):=by
 have hm:¬ O.M a:=fun m=>by obtain ⟨o,z⟩:=r.ok.here H a r.p m;rw [hn] at z;cases z
 have new:∀ j,¬ A j a:=fun j z=>by obtain ⟨_,⟨ys,q,_⟩,_⟩:=r.own j a z;rw [hn] at q;cases q
 have un:∀ b o,H b=some o->unO O A b->unO O (fun j b=>(j ≠ i/\A j b)\/(j=i/\b=a)) b:=fun b o e u=>⟨u.1,fun j z=>by
  rcases z with z | z
  ·exact u.2 j z.2
  ·rw [z.2,hn] at e;cases e⟩
 have mv:∀ {v d},Is K (unO O A) H v d->Is K (unO O (fun j b=>(j ≠ i/\A j b)\/(j=i/\b=a))) H' v d:=fun z =>
  z.to (fun b ys f q=>⟨un b _ q f,s.s b _ q f.1⟩) fun b ys q=>SqT.stay (h:=q) s.t
 have mvs:∀ {v d},IsAll K (unO O A) H v d->IsAll K (unO O (fun j b=>(j ≠ i/\A j b)\/(j=i/\b=a))) H' v d:=fun z =>
  z.to (fun b ys f q=>⟨un b _ q f,s.s b _ q f.1⟩) fun b ys q=>SqT.stay (h:=q) s.t
 refine ⟨r.ok,s.p r.p,r.p0,r.st.trans s,fun j k b x y=>?_,fun j b x=>?_,fun j x e=>?_,by rw [List.length_set,List.length_set];exact r.len⟩
 ·rcases x with x | x <;> rcases y with y | y
  ·exact r.dis j k b x.2 y.2
  ·exact absurd (y.2 ▸ x.2) (new j)
  ·exact absurd (x.2 ▸ y.2) (new k)
  ·exact x.1.trans y.1.symm
 ·rcases x with x | x
  ·obtain ⟨h0,⟨ys,q,ho⟩,m⟩:=r.own j b x.2
   exact ⟨h0,⟨ys,s.s b _ q m,ho⟩,m⟩
  ·obtain ⟨rfl,rfl⟩:=x
   exact ⟨r.st.s.free hm hn,⟨_,hl,ho⟩,hm⟩
 ·by_cases hj:i=j
  ·subst hj
   have hi:i<ρ.length:=by
    rcases Nat.lt_or_ge i ρ.length with z | z
    ·exact z
    ·rw [List.getElem?_eq_none (by simpa using z)] at e;cases e
   rw [List.getElem?_set_self hi] at e
   cases e
   exact ⟨.ref a,List.getElem?_set_self (by have:=r.len;lia),a,xs,rfl,.inr ⟨rfl,rfl⟩,hl,IsAll.flats (TupStay.refl H') hf fl⟩
  ·rw [List.getElem?_set_ne hj] at e
   obtain ⟨w,h1,h2⟩:=r.at_ j x e
   refine ⟨w,by rw [List.getElem?_set_ne hj];exact h1,?_⟩
   cases x with
   | im d=>exact mv h2
   | own es =>
     obtain ⟨b,ys,rfl,hb,hlb,hs⟩:=h2
     exact ⟨b,ys,rfl,.inl ⟨fun z=>hj z.symm,hb⟩,s.s b _ hlb (r.own j b hb).2.2,mvs hs⟩
   | ob=>exact h2
   | scr n=>exact IsS.to (fun b u f q=>⟨un b u q f,s.s b u q f.1⟩) h2
   | dct ks=>obtain ⟨b,hb,h2⟩:=h2;exact ⟨b,.inl ⟨fun z=>hj z.symm,hb⟩,h2.to fun u q=>s.s b u q (r.own j b hb).2.2⟩
   | gen f ds=>obtain ⟨b,xs,e,hb,q,z⟩:=h2;exact ⟨b,xs,e,.inl ⟨fun z=>hj z.symm,hb⟩,s.s b _ q (r.own j b hb).2.2,mvs z⟩
   | rd f ds=>obtain ⟨b,xs,e,hb,q,z⟩:=h2;exact ⟨b,xs,e,un b _ q hb,s.s b _ q hb.1,mvs z⟩
theorem Rep.changeG {i:Nat} {a:Addr} {ys:List V} {ds es:List PyData} {f f':Addr->List V->HO} (r:Rep K O H₀ A H σ ρ) (e:ρ[i]? = some (some (.gen f ds))) (hv:σ[i]? = some (some (.ref a))) (ha:A i a) (ho:OwnO (f' a ys)) (hs:IsAll K (unO O A) H ys es) :
 Rep K O H₀ A (upd H a (f' a ys)) σ (ρ.set i (some (.gen f' es))):=by
 obtain ⟨h0,⟨oo,hz,hoo⟩,hm⟩:=r.own i a ha
 have ts:TupStay H (upd H a (f' a ys)):=fun b u hu hb=>by
  rw [zad fun z=>?_]
  ·exact hb
  ·rw [z,hz] at hb
   cases hb
   obtain ⟨us,e1 | ⟨o',e1⟩⟩:=hu
   ·exact absurd e1 (hoo us).1
   ·exact absurd e1 ((hoo us).2 o')
 have mv:∀ {v d},Is K (unO O A) H v d->Is K (unO O A) (upd H a (f' a ys)) v d:=fun z=>z.to (fun b us f q=>⟨f,by rw [zad (show b ≠ a from fun w=>f.2 i (by rw [w];exact ha))];exact q⟩) fun b us q=>SqT.stay (h:=q) ts
 have mvs:∀ {v d},IsAll K (unO O A) H v d->IsAll K (unO O A) (upd H a (f' a ys)) v d:=fun z=>z.to (fun b us f q=>⟨f,by rw [zad (show b ≠ a from fun w=>f.2 i (by rw [w];exact ha))];exact q⟩) fun b us q=>SqT.stay (h:=q) ts
 have pp:O.P (upd H a (f' a ys)):=r.ok.loc H _ (fun b m=>zad fun z=>hm (z ▸ m)) r.p
 refine ⟨r.ok,pp,r.p0,⟨fun b o hb n=>?_,fun _=>pp,fun b u hu hb=>ts b u hu (r.st.t b u hu hb)⟩,r.dis,fun j b hb=>?_,fun j x ej=>?_,by rw [List.length_set];exact r.len⟩
 ·rw [zad fun z=>?_]
  ·exact r.st.s b o hb n
  ·rw [z,h0] at hb;cases hb
 ·obtain ⟨k0,⟨us,k1,ko⟩,k2⟩:=r.own j b hb
  by_cases hba:b=a
  ·subst hba;exact ⟨k0,⟨_,zai,ho⟩,k2⟩
  ·exact ⟨k0,⟨us,by rw [zad hba];exact k1,ko⟩,k2⟩
 ·by_cases hj:i=j
  ·subst hj
   have hi:i<ρ.length:=(List.getElem?_eq_some_iff.mp e).1
   rw [List.getElem?_set_self hi] at ej
   cases ej
   exact ⟨.ref a,hv,a,ys,rfl,ha,zai,mvs hs⟩
  ·rw [List.getElem?_set_ne hj] at ej
   obtain ⟨w,h1,h2⟩:=r.at_ j x ej
   refine ⟨w,h1,?_⟩
   cases x with
   | im d=>exact mv h2
   | own fs =>
     obtain ⟨b,us,rfl,hb,hlb,hs2⟩:=h2
     exact ⟨b,us,rfl,hb,by rw [zad (show b ≠ a from fun z=>hj (r.dis i j a ha (by rw [<- z];exact hb)))];exact hlb,mvs hs2⟩
   | ob=>exact h2
   | scr n=>exact IsS.to (fun b u f q=>⟨f,by rw [zad (show b ≠ a from fun w=>f.2 i (by rw [w];exact ha))];exact q⟩) h2
   | dct ks=>obtain ⟨b,hb,h2⟩:=h2;exact ⟨b,hb,h2.to fun u q=>by rw [zad (show b ≠ a from fun z=>hj (r.dis i j a ha (by rw [<- z];exact hb)))];exact q⟩
   | gen f ds=>obtain ⟨b,xs,e,hb,q,z⟩:=h2;exact ⟨b,xs,e,hb,by rw [zad (show b ≠ a from fun z=>hj (r.dis i j a ha (by rw [<- z];exact hb)))];exact q,mvs z⟩
   | rd f ds=>obtain ⟨b,xs,e,hb,q,z⟩:=h2;exact ⟨b,xs,e,hb,by rw [zad (show b ≠ a from fun w=>hb.2 i (by rw [w];exact ha))];exact q,mvs z⟩
mutual
theorem zj1:∀ d:PyData,HK.hk d=true->flat d=true
 | .int _,_=>rfl
 | .str _,_=>rfl
 | .tuple ds,h=>by rw [flat];exact zkk ds (by simpa [HK.hk] using h)
 | .none,h=>by simp [HK.hk] at h
 | .bool _,h=>by simp [HK.hk] at h
 | .list _,h=>by simp [HK.hk] at h
 | .dict _,h=>by simp [HK.hk] at h
theorem zkk:∀ ds:List PyData,HK.hks ds=true->flats ds=true
 | [],_=>rfl
 | d::ds,h=>by
   simp only [HK.hks,Bool.and_eq_true] at h
   rw [flats,zj1 d h.1,zkk ds h.2]
   rfl
end
noncomputable def zqp (w:World) (n:Nat) (ρ:DSt) (ks vs:List PyData):Prop:=ks.length=vs.length/\(ρ[n]? = some (some (.gen (ddO w ks) (ks++vs)))\/ρ[n]? = some (some (.rd (ddO w ks) (ks++vs))))
theorem zn8 {w:World} {n:Nat} {ks vs:List PyData} (S:Seen K O H σ ρ) (h:zqp w n ρ ks vs):∃ a xs,σ[n]? = some (some (.ref a))/\¬ O.M a/\H a=some (ddO w ks a xs)/\IsAll K (unM O) H xs (ks++vs):=by
 rcases h.2 with e | e
 ·obtain ⟨v,h1,a,xs,rfl,nm,q,z⟩:=S.at_ n _ e
  exact ⟨a,xs,h1,nm,q,z⟩
 ·obtain ⟨v,h1,a,xs,rfl,nm,q,z⟩:=S.at_ n _ e
  exact ⟨a,xs,h1,nm,q,z⟩
noncomputable def zsb (w:World) (n:Nat):DS:=fun Dd ρ=>Dd.nx (ρ.set n (some (.gen (ddO w []) [])))
noncomputable def zxf (w:World) (n:Nat) (fk:DE):DT:=fun ρ Q=>∃ ks vs,zqp w n ρ ks vs/\fk ρ fun r=>HK.DKey r.d/\∀ b:Bool,(b=true↔r.d ∈ ks)->Q b
noncomputable def zl8 (w:World) (n:Nat) (fk:DE):DT:=fun ρ Q=>∃ ks vs,zqp w n ρ ks vs/\fk ρ fun r=>HK.DKey r.d/\∀ b:Bool,(b=true↔r.d ∉ ks)->Q b
noncomputable def zsv (w:World) (n:Nat) (fv fk:DE):DS:=fun Dd ρ=>∃ ks vs,ks.length=vs.length/\ρ[n]? = some (some (.gen (ddO w ks) (ks++vs)))/\fv ρ fun rv=>fk ρ fun rk=>flat rv.d=true/\HK.DKey rk.d/\rk.d ∉ ks/\ks.length<sizeLine/\Dd.nx (ρ.set n (some (.gen (ddO w (ks ++ [rk.d])) ((ks ++ [rk.d])++(vs ++ [rv.d])))))
theorem zuk {w:World} {n:Nat}:SD K O (tAsg (zsd w) (za9 n)) (zsb w n):=fun H₀ A σ H ρ D Dd r q P=>by
 intro p hp
 have st:Stp O H (upd H p (ddO w [] p [])) := .new r.ok hp _
 exact P.nx _ _ _ _ (r.setGen (i:=n) (f:=ddO w []) (ds := []) st hp zai zj4 .nil rfl) (.setOwn st hp) q
theorem zzc {w:World} {n:Nat} {t:TE} {f:DE} (h:ED K O t f):TD K O (tB (zw2 w K t (tVar n))) (zxf w n f):=fun σ H ρ Q Qd S q k=>by
 obtain ⟨ks,vs,hd,q⟩:=q
 refine h σ H ρ _ _ S q fun y H1 r s1 o1 ⟨hk,q1⟩=>?_
 obtain ⟨a,xs,h1,nm,g,is⟩:=zn8 (S.stp s1) hd
 exact ⟨_,h1,a,ks,vs,xs,unM O,r.d,rfl,g,is,o1.is S.ok S.p,hk,_,rfl,k _ H1 s1 (q1 _ (by simp))⟩
theorem zra {w:World} {n:Nat} {t:TE} {f:DE} (h:ED K O t f):TD K O (tB (zmj w K t (tVar n))) (zl8 w n f):=fun σ H ρ Q Qd S q k=>by
 obtain ⟨ks,vs,hd,q⟩:=q
 refine h σ H ρ _ _ S q fun y H1 r s1 o1 ⟨hk,q1⟩=>?_
 obtain ⟨a,xs,h1,nm,g,is⟩:=zn8 (S.stp s1) hd
 exact ⟨_,h1,a,ks,vs,xs,unM O,r.d,rfl,g,is,o1.is S.ok S.p,hk,_,rfl,k _ H1 s1 (q1 _ (by simp))⟩
theorem zvv {w:World} {n:Nat} {tv tk:TE} {fv fk:DE} (hv:ED K O tv fv) (hk:ED K O tk fk):SD K O (zsr w K (tVar n) tk tv) (zsv w n fv fk):=fun H₀ A σ H ρ D Dd r q P=>by
 obtain ⟨ks,vs,ln,e,q⟩:=q
 refine hv σ H ρ _ _ r.seen q fun v H1 x s1 o1 q1=>?_
 have r1:=r.stp s1
 obtain ⟨u,h1,a0,xs0,rfl,ha0,hl0,hs0⟩:=r1.at_ n _ e
 refine ⟨_,h1,?_⟩
 refine hk σ H1 ρ _ _ r1.seen q1 fun y H2 z s2 o2 ⟨fl,dk,nk,hz,q2⟩=>?_
 have r2:=r1.stp s2
 obtain ⟨u,h2,a,xs,e2,ha,hl,hs⟩:=r2.at_ n _ e
 rw [h1] at h2
 cases h2
 cases e2
 have lx:=hs.length
 rw [List.length_append] at lx
 have hu:=hs.take ks.length
 have hy:=hs.drop ks.length
 rw [List.take_left] at hu
 rw [List.drop_left] at hy
 have ex:xs.take ks.length++xs.drop ks.length=xs:=List.take_append_drop _ _
 have iv:Is K (unO O A) H2 v x.d:=Is.flat s2.t (o1.is r.ok r.p) fl
 have iy:Is K (unO O A) H2 y z.d:=Is.flat (TupStay.refl H2) (o2.is r1.ok r1.p) (zj1 _ dk.ha)
 refine ⟨a0,ks,vs,xs.take ks.length,xs.drop ks.length,unO O A,z.d,rfl,by rw [ex];exact hl,by rw [List.length_take];lia,by rw [ex];exact hs,iy,dk,nk,hz,?_⟩
 have rr:=r2.changeG (f':=ddO w (ks ++ [z.d])) (ys:=(xs.take ks.length ++ [y])++(xs.drop ks.length ++ [v])) (es:=(ks ++ [z.d])++(vs ++ [x.d])) e h1 ha zj4 ((hu.snoc iy).append (hy.snoc iv))
 exact P.nx A σ _ _ rr ((Frm.stp (s1.trans s2)).trans (.change ha)) q2
end
end L3
namespace L3
open PySem PySem.Spec
open PyProof.Rows hiding St
open L2
section
variable {ι κ : Type} {P : Program} {w : World} {K : PySem.W.Frag} {mg : Str → Option Value} {base : Heap} {k : Nat} {X : ι → Cx} {O : κ → Ob} {a b : Expr} {fa fb : DE} {pos p : Pos}
theorem zx7 (n:Nat) {x:Str} {px p3:Pos} (C:Ctx3 P w K mg base k X) (hN:∀ i,(X i).N.Nodup:=by intro i;exact of_decide_eq_true (by kernel_rfl)) (hi:∀ i,(X i).N[n]? = some x:=by intro i;rfl) (hx:∀ i,Loc (X i).env.scope x:=by intro i;first | exact Or.inl rfl | exact Or.inr rfl)
 (hs:∀ i,swapsWith (.Dict [] [] p3) (some (.Name x px)) pos.line (X i).env=pure false:=by intro i;rfl) (hf:∀ i,(X i).fn x=true\/(X i).env.scope.names.lookup x=some .local:=by intro i;first | exact .inl rfl | exact .inr rfl) :
 S3 K X O (.Assign [.Name x px] (.Dict [] [] p3) pos) (zsb w n) :=
 ⟨_,fun i=>by
  have h:=zv1 (X:=X i) (pos:=p3)
  rw [C.hw] at h
  exact zb9 (hN i) (hi i) (hx i) h (hs i) (hf i),fun j=>zuk⟩
theorem z3j (n:Nat) {x:Str} {px:Pos} (C:Ctx3 P w K mg base k X) (ha:E3 K X O a fa) (hN:∀ i,(X i).N[n]? = some x:=by intro i;rfl) (hv:∀ i,Vis (X i).env.scope x:=by intro i;first | exact Or.inl rfl | exact Or.inr (Or.inl rfl) | exact Or.inr (Or.inr rfl)) (hd:(x == ("__debug__" : Str))=false:=by decide) (hcd:(x == ("__classdict__" : Str))=false:=by decide)
 (hm:behindInMarks .In (.Name x px)=false:=by rfl):T3 K X O (.Compare a [.In] [.Name x px] pos) (zxf w n fa):=let ⟨_,p1,d1⟩:=ha;
 ⟨_,fun i=>by
  have h:=zzg (C.room i).units (p1 i) (zak (pos:=px) (hN i) (hv i) hd hcd)
  rw [C.hw,C.hK] at h
  exact zto h hm,fun j=>zzc (d1 j)⟩
theorem zsy (n:Nat) {x:Str} {px:Pos} (C:Ctx3 P w K mg base k X) (ha:E3 K X O a fa) (hN:∀ i,(X i).N[n]? = some x:=by intro i;rfl) (hv:∀ i,Vis (X i).env.scope x:=by intro i;first | exact Or.inl rfl | exact Or.inr (Or.inl rfl) | exact Or.inr (Or.inr rfl)) (hd:(x == ("__debug__" : Str))=false:=by decide) (hcd:(x == ("__classdict__" : Str))=false:=by decide)
 (hm:behindInMarks .NotIn (.Name x px)=false:=by rfl):T3 K X O (.Compare a [.NotIn] [.Name x px] pos) (zl8 w n fa):=let ⟨_,p1,d1⟩:=ha;
 ⟨_,fun i=>by
  have h:=zqe (C.room i).units (p1 i) (zak (pos:=px) (hN i) (hv i) hd hcd)
  rw [C.hw,C.hK] at h
  exact zto h hm,fun j=>zra (d1 j)⟩
theorem zpa (n:Nat) {x:Str} {px tp:Pos} (C:Ctx3 P w K mg base k X) (hv:E3 K X O a fa) (hi:E3 K X O b fb) (hN:∀ i,(X i).N[n]? = some x:=by intro i;rfl) (hvx:∀ i,Vis (X i).env.scope x:=by intro i;first | exact Or.inl rfl | exact Or.inr (Or.inl rfl) | exact Or.inr (Or.inr rfl)) (hd:(x == ("__debug__" : Str))=false:=by decide) (hcd:(x == ("__classdict__" : Str))=false:=by decide)
 (hs:∀ i,swapsWith a (some (.Subscript (.Name x px) b tp)) pos.line (X i).env=pure false:=by intro i;rfl) :
 S3 K X O (.Assign [.Subscript (.Name x px) b tp] a pos) (zsv w n fa fb):=let ⟨_,p1,d1⟩:=hv;let ⟨_,p2,d2⟩:=hi;
 ⟨_,fun i=>by
  have h:=zuz (pos:=pos) (pos':=tp) (C.room i).units (zak (pos:=px) (hN i) (hvx i) hd hcd) (p2 i) (p1 i) (hs i)
  rw [C.hw,C.hK] at h
  exact h,fun j=>zvv (d1 j) (d2 j)⟩
end
section
variable {ι κ : Type} {K : PySem.W.Frag} {X : ι → Cx} {O : κ → Ob}
theorem z0i {pos:Pos}:S3 K X O (.Continue pos) (fun Dd ρ=>Dd.ct ρ):=⟨_,fun i=>zoc,fun j=>zzl⟩
end
end L3
namespace L3
open PySem PySem.Spec
open PyProof.Rows hiding St
open L2
noncomputable def zrx (w:World) (K:PySem.W.Frag) (ty tv:TE):TE:=fun σ H Q=>∀ p,H p=none->ty σ (upd H p (ddO w [] p [])) fun y H1=>tv σ H1 fun v H2=>∃ (F:Addr->Prop) (k:PyData),H2 p=some (ddO w [] p [])/\Is K F H2 y k/\HK.DKey k/\Q (.ref p) (upd H2 p (ddO w [k] p [y,v]))
section
variable {X : Cx} {k v : Expr} {pos : Pos} {ty tv : TE}
theorem zvg (hu:X.A.units+64<cLine) (hk:PE X k ty) (hv:PE X v tv):PE X (.Dict [some k] [v] pos) (zrx X.w X.K ty tv):=by
 intro pins s σ H Q I h
 refine wpAny_Dict_any rfl rfl (by simp) (show 1<=15 by decide) ?_
 have I1:Inv X pins σ (upd H s.heap.objs.size (ddO X.w [] s.heap.objs.size [])) { s with heap:=s.heap.push { cls := .type "dict", data := .dict #[] } }:=I.laid (a:=s.heap.objs.size) (o:=ddO X.w [] s.heap.objs.size []) (t':=s.toks) (fun _ _ q=>Heap.get?_push_of_some _ q) (Nat.le_refl _)
  (zlp ⟨beq_eq_false_iff_ne.mpr (Ne.symm (Nat.ne_of_lt I.big)),Nat.zero_le _,List.nodup_nil,fun _ z=>(nomatch z),[],rfl,(show Vals [] [] from .nil),_,#[],0,Heap.get?_push_size _ rfl,⟨rfl,rfl,rfl⟩,rfl,rfl⟩)
 show wpAny _ _ (evalPairs [_]) _ _ _
 refine evalPairs_cons ?_
 refine thn (hk pins _ σ _ _ I1 (h _ (I.hok.fresh (Nat.le_refl _)))) fun u s1 ⟨y,H1,I2,ry,q1⟩=>wpAny_bind (thn (hv pins s1 σ H1 _ I2 q1) fun u2 s2 ⟨v,H2,I3,rv,F,kd,g,iy,dk,q⟩=>wpAny_bind (wpAny_standAt (wpAny_pure (evalPairs_nil ?_))))
 obtain ⟨b,rfl,rfl,kb⟩:=zg7 I3 dk iy ry
 obtain ⟨hd,z,nd,dks,zs,h5,h6,Dd⟩:=zln (F:=F) (vs := []) I3 g .nil
 obtain rfl:zs = []:=List.map_eq_nil_iff.mp h5
 unfold storeAll;simp only [List.forIn_cons,List.forIn_nil]
 refine wpAny_bind (wpAny_bind (wpAny_dictSet_heap (hsz:=Nat.zero_le _) (show _+16<cLine by show X.A.units+16<cLine;lia) kb Dd fun h' D' sb=>wpAny_pure (wpAny_pure ⟨.ref s.heap.objs.size,_,?_,rfl,q⟩)))
 rw [storedH_new rfl] at D'
 obtain ⟨o,es,ep,ho,e2,e3,e4,_,e5⟩:=D'
 refine zoo I3 (by rw [g];exact True.intro) sb ⟨o,ho⟩ (zlp ⟨hd,by show 1<=sizeLine;rw [sizeLine_eq];decide,by simp,fun k' hk'=>?_,[(kd,b,u2)],rfl,?_,o,es,ep,ho,e2,e3,e4⟩)
 ·rw [List.mem_singleton.mp hk'];exact dk
 ·exact .cons (show RelV (.ref b) (.ref b) from rfl) (.cons rv .nil)
end
noncomputable def ztl (w:World) (n:Nat) (fk fv:DE):DS:=fun Dd ρ=>fk ρ fun rk=>fv ρ fun rv=>flat rv.d=true/\HK.DKey rk.d/\Dd.nx (ρ.set n (some (.gen (ddO w [rk.d]) ([rk.d] ++ [rv.d]))))
section
variable {K : PySem.W.Frag} {O : Ob}
theorem zvs {w:World} {n:Nat} {ty tv:TE} {fk fv:DE} (hk:ED K O ty fk) (hv:ED K O tv fv):SD K O (tAsg (zrx w K ty tv) (za9 n)) (ztl w n fk fv):=fun H₀ A σ H ρ D Dd r q P=>by
 intro p hp
 have hm:¬ O.M p:=fun m=>by obtain ⟨o,z⟩:=r.ok.here H p r.p m;rw [hp] at z;cases z
 have st0:Stp O H (upd H p (ddO w [] p [])) := .new r.ok hp _
 have r0:=r.stp st0
 refine hk σ _ ρ _ _ r0.seen q fun y H1 x s1 o1 q1=>?_
 have r1:=r0.stp s1
 refine hv σ H1 ρ _ _ r1.seen q1 fun v H2 z s2 o2 ⟨fl,dk,q2⟩=>?_
 have g:H2 p=some (ddO w [] p []):=s2.s p _ (s1.s p _ zai hm) hm
 have iy:Is K (unM O) H2 y x.d:=Is.stp s2 (fun _ f=>f) (fun _ f=>f) (o1.is r.ok (st0.p r.p))
 have iv:Is K (unM O) H2 v z.d:=o2.is r.ok (s1.p (st0.p r.p))
 have ts:TupStay H2 (upd H2 p (ddO w [x.d] p [y,v])):=fun b u hu hb=>by
  rw [zad fun z=>?_]
  ·exact hb
  ·rw [z,g] at hb
   cases hb
   obtain ⟨us,e1 | ⟨o',e1⟩⟩:=hu <;> cases e1
 have mv:∀ {u d},Is K (unM O) H2 u d->Is K (unM O) (upd H2 p (ddO w [x.d] p [y,v])) u d:=fun z=>z.to (fun b us f q=>⟨f,by
  rw [zad fun w=>?_]
  ·exact q
  ·rw [w,g] at q;cases q⟩) fun b us q=>SqT.stay (h:=q) ts
 have s012:=st0.trans (s1.trans s2)
 have st:Stp O H (upd H2 p (ddO w [x.d] p [y,v])):=⟨fun b o hb nb=>by
  rw [zad fun z=>by rw [z,hp] at hb;cases hb]
  exact s012.s b o hb nb,fun h=>r.ok.loc H2 _ (fun b m=>zad fun e=>hm (e ▸ m)) (s012.p h),fun b u hu hb=>ts b u hu (s012.t b u hu hb)⟩
 refine ⟨unM O,x.d,g,iy,dk,?_⟩
 exact P.nx _ _ _ _ (r.setGen (i:=n) (f:=ddO w [x.d]) (ds := [x.d] ++ [z.d]) st hp zai zj4 (.cons (mv iy) (.cons (mv iv) .nil)) (by show (flat x.d && (flat z.d && true))=true;rw [zj1 _ dk.ha,fl];rfl)) (.setOwn st hp) q2
end
section
variable {ι κ : Type} {P : Program} {w : World} {K : PySem.W.Frag} {mg : Str → Option Value} {base : Heap} {k : Nat} {X : ι → Cx} {O : κ → Ob} {a b : Expr} {fa fb : DE} {pos : Pos}
theorem zyz (n:Nat) {x:Str} {px p3:Pos} (C:Ctx3 P w K mg base k X) (ha:E3 K X O a fa) (hb:E3 K X O b fb) (hN:∀ i,(X i).N.Nodup:=by intro i;exact of_decide_eq_true (by kernel_rfl)) (hi:∀ i,(X i).N[n]? = some x:=by intro i;rfl) (hx:∀ i,Loc (X i).env.scope x:=by intro i;first | exact Or.inl rfl | exact Or.inr rfl)
 (hs:∀ i,swapsWith (.Dict [some a] [b] p3) (some (.Name x px)) pos.line (X i).env=pure false:=by intro i;rfl) (hf:∀ i,(X i).fn x=true\/(X i).env.scope.names.lookup x=some .local:=by intro i;first | exact .inl rfl | exact .inr rfl) :
 S3 K X O (.Assign [.Name x px] (.Dict [some a] [b] p3) pos) (ztl w n fa fb) :=
 let ⟨_,p1,d1⟩:=ha;let ⟨_,p2,d2⟩:=hb; ⟨_,fun i=>by
  have h:=zvg (X:=X i) (pos:=p3) (by have:=(C.room i).un;lia) (p1 i) (p2 i)
  rw [C.hw,C.hK] at h
  exact zb9 (hN i) (hi i) (hx i) h (hs i) (hf i),fun j=>zvs (d1 j) (d2 j)⟩
end
end L3
namespace L3
open PySem PySem.Spec
open PyProof.Rows hiding St
open L2
theorem z2p {zs:List Str} {v:List Nat} (h:∀ k ∈ zs,k ∈ v.map sg):∃ z:List Nat,zs=z.map sg/\∀ c ∈ z,c ∈ v:=by
 induction zs with
 | nil=>exact ⟨[],rfl,by simp⟩
 | cons k zs ih =>
   obtain ⟨c,hc,rfl⟩:=List.mem_map.mp (h k (by simp))
   obtain ⟨z,rfl,hz⟩:=ih fun k hk=>h k (List.mem_cons_of_mem _ hk)
   exact ⟨c::z,rfl,fun d hd=>by
    rcases List.mem_cons.mp hd with rfl | hd
    ·exact hc
    ·exact hz d hd⟩
theorem z0c {v:List Nat} {zs:List Str} (hn:zs.Nodup) (hm:∀ k,k ∈ zs↔k ∈ v.map sg) (hs:sortedS zs=true):∃ z:List Nat,zs=z.map sg/\z.Nodup/\(∀ c,c ∈ z↔c ∈ v)/\z.Pairwise (· < ·):=by
 obtain ⟨z,rfl,hz⟩:=z2p fun k hk=>(hm k).mp hk
 have nd:z.Nodup:=List.Pairwise.of_map sg (fun a b h e=>h (by rw [e])) hn
 exact ⟨z,rfl,nd,fun c=>⟨hz c,fun hc=>by
  obtain ⟨d,hd,e⟩:=List.mem_map.mp ((hm (sg c)).mpr (List.mem_map.mpr ⟨c,hc,rfl⟩))
  rw [<- zr1 e]
  exact hd⟩,ziy hs nd⟩
end L3
namespace L23
open PySem PySem.Spec
open PyProof.Rows hiding St
open L2 L3 L6
section
variable {P : Program} {w : World} {K : PySem.W.Frag} {mg : Str → Option Value} {base : Heap} {k : Nat}
noncomputable abbrev zjy:Stmt:=top 1
theorem zuh:FnScope ["piece", "other"] ["piece", "other"] (zag zjy):=⟨rfl,rfl,rfl,by decide +kernel,rfl,by decide +kernel,by decide +kernel⟩
theorem zc7 (B:Blt mg) (T:Top3 K mg "covers" zjy):Def3 P w K mg base 1 "covers" ["piece", "other"] (spO K (fun _=>True) 2 covF):=by
 refine mk_O T zuh (fun _ _ _ _ _ _ us hl=>len2 hl fun _ _=>rfl) rfl fun f cdv A outer s H E O hφ C=>⟨_,(zah (zao (zwm (e_eq C (za2 C (zaa 0) zaj) zb3) (zww (z3x C B (zab (zcx 1 ["letter", "piece", "other"] C (fun _ => .of rfl (by kernel_rfl)) (zle (za2 C (zaa 1) zaj)) (za3 0) zfa (e_in (C.comp _ _) (zaa 0) (za2 (C.comp _ _) (zaa 1) zaj))) zac)))))),fun ds Qr hn q=>?_⟩
 obtain ⟨p,q0,rfl,hp,hq,lp,lq,q⟩:=q
 refine ⟨_,_,rfl,rfl,_,rfl,_,zcu (zbn p.1) (by decide +kernel),_,rfl,?_⟩
 have e:=zhs p.1
 rw [if_neg Bool.false_ne_true,e]
 unfold covB at q
 cases h1:p.1 with
 | false =>
   rw [h1] at q
   exact iteF q
 | true =>
   rw [h1,Bool.true_and] at q
   refine iteT ?_
   refine ⟨_,_,rfl,rfl,_,rfl,tx q0.2,rfl,?_⟩
   refine zrd (e:=fun d => .bool (match d with | .str x=>decide (x.cps.toList.headD 0 ∈ p.2) | _=>false)) (fun d hd P hP=>?_) ?_ ?_
   ·obtain ⟨c,hc,rfl⟩:=List.mem_map.mp hd
    refine ⟨_,_,rfl,rfl,_,_,rfl,rfl,_,rfl,_,ziu,hP _ ?_⟩
    rfl
   ·rw [sgs,List.length_map,zbe,sizeLine_eq]
    lia
   ·refine ⟨(q0.2.map fun c=>decide (c ∈ p.2)),?_,?_⟩
    ·show [PyData.list _] = [PyData.list _]
     rw [sgs,zbe,List.map_map,List.map_map]
     rfl
    ·have e2:(q0.2.map fun c=>decide (c ∈ p.2)).all id=q0.2.all fun c=>decide (c ∈ p.2):=by rw [List.all_map];rfl
     rw [if_neg Bool.false_ne_true,e2]
     exact q
end
section
variable {P : Program} {w : World} {K : PySem.W.Frag} {mg : Str → Option Value} {base : Heap} {k : Nat}
noncomputable abbrev zd6:Stmt:=top 2
theorem zk9:FnScope ["less", "more"] ["less", "more"] (zag zd6):=⟨rfl,rfl,rfl,by decide +kernel,rfl,by decide +kernel,by decide +kernel⟩
theorem zdc (B:Blt mg) (zc7:Def3 P w K mg base 1 "covers" ["piece", "other"] (spO K (fun _=>True) 2 covF)) (T:Top3 K mg "piece_within" zd6):Def3 P w K mg base 2 "piece_within" ["less", "more"] (spO K (fun _=>True) 2 pwF):=by
 refine mk_O T zk9 (fun _ _ _ _ _ _ us hl=>len2 hl fun _ _=>rfl) rfl fun f cdv A outer s H E O hφ C=>⟨_,(zah (zao (e_if (t_eq C (za2 C (zaa 0) zaj) zb3) (e_in C (za2 C (zaa 0) zaj) (za2 C (zaa 1) zaj)) (zap C zc7 (fun _=>trivial) (zab (zaa 1) (zab (zaa 0) zac)))))),fun ds Qr hn q=>?_⟩
 obtain ⟨p,q0,rfl,hp,hq,lp,lq,op,oq,q⟩:=q
 refine ⟨_,_,rfl,rfl,_,rfl,_,zcu (zbn p.1) (by decide +kernel),_,rfl,?_⟩
 rw [if_neg Bool.false_ne_true,zff]
 obtain ⟨a,v⟩:=p
 obtain ⟨b,u⟩:=q0
 cases a with
 | false =>
   obtain ⟨c,rfl⟩:∃ c,v = [c]:=List.length_eq_one_iff.mp (op rfl)
   refine iteT ⟨_,_,rfl,rfl,_,rfl,_,_,rfl,rfl,_,rfl,_,ziu (c:=c) (w:=u),?_⟩
   have e:pwB (false,[c]) (b,u)=decide (c ∈ u):=by
    unfold pwB covB
    cases b with
    | true=>simp
    | false =>
      obtain ⟨x,rfl⟩:∃ x,u = [x]:=List.length_eq_one_iff.mp (oq rfl)
      simp
   rw [e] at q
   exact q
 | true =>
   have e:pwB (true,v) (b,u)=covB (b,u) (true,v):=by
    unfold pwB covB
    by_cases h:(true,v)=(b,u)
    ·cases h
     simp
    ·rw [decide_eq_false h,Bool.false_or]
   rw [e] at q
   exact iteF ⟨_,_,rfl,rfl,_,_,rfl,rfl,rfl,(b,u),(true,v),rfl,hq,hp,lq,lp,q⟩
end
section
variable {P : Program} {w : World} {K : PySem.W.Frag} {mg : Str → Option Value} {base : Heap} {k : Nat}
noncomputable abbrev zed:Stmt:=top 3
theorem zk8:FnScope ["product", "start", "piece", "place"] ["product", "start", "piece"] (zag zed):=⟨rfl,rfl,rfl,by decide +kernel,rfl,by decide +kernel,by decide +kernel⟩
theorem zbz (B:Blt mg) (zdc:Def3 P w K mg base 2 "piece_within" ["less", "more"] (spO K (fun _=>True) 2 pwF)) (T:Top3 K mg "place_behind" zed):Def3 P w K mg base 3 "place_behind" ["product", "start", "piece"] (spO K (fun _=>True) 3 pbF):=by
 refine mk_O T zk8 (fun _ _ _ _ _ _ us hl=>len3 hl fun _ _ _=>rfl) rfl fun f cdv A outer s H E O hφ C=>⟨_,(zae (zbt C (zcj (i_r2 C B (zab (zaa 1) (zab (zbk C B (zab (zaa 0) zac)) zac)))) (za3 (h:=1000) 3) (zah (s_if (zia (zap C zdc (fun _=>trivial) (zab (zaa 2) (zab (za2 C (zaa 0) (zaa 3)) zac)))) (zah (zao (e_if (t_eq C (za2 C (za2 C (zaa 0) (zaa 3)) zaj) zb3) (zaa 3) (zaw C (zaa 3) zaj)))) za1))) (zah (zao zfp))),fun ds Qr hn q=>?_⟩
 obtain ⟨pr,st,p,rfl,hpr,hp,lp,op,hst,q⟩:=q
 have hl:=hpr.len
 have el:(pr.map encP).length=pr.length:=List.length_map _
 refine ⟨_,_,rfl,rfl,_,_,rfl,rfl,_,rfl,(st:Int),_,rfl,⟨by lia,by lia,by lia,by lia⟩,rfl,?_⟩
 have en:(((pr.map encP).length:Int) - (st:Int)).toNat=pr.length - st:=by rw [el];lia
 rw [en]
 unfold pb at q
 refine zau (fun j ρ=>∃ o,ρ = [some (.im (zaf pr)),some (.im (.int st)),some (.im (encP p)),o]/\st+j<=pr.length/\Qr (.o (optD (pbGo p (pr.drop (st+j)) (st+j))))) ⟨none,rfl,hst,q⟩ (fun ρ zz=>?_) fun j d ρ N hd hN zz=>?_
 ·obtain ⟨o,e,hj,q⟩:=zz
  rw [zek] at q
  rw [List.drop_eq_nil_of_le (by lia)] at q
  exact q
 ·obtain ⟨o,e,hj,q⟩:=zz
  subst e
  obtain ⟨hj2,rfl⟩:=zdn hd
  have hlt:st+j<pr.length:=by lia
  rw [List.drop_eq_getElem_cons hlt,pbGo] at q
  have hi:=zmi hlt
  have wf:=hpr.all _ (List.getElem_mem hlt)
  have ej:((st:Int)+(j:Nat))=((st+j:Nat):Int):=by lia
  rw [ej]
  refine ⟨rfl,?_⟩
  refine ⟨_,_,rfl,rfl,_,_,rfl,rfl,_,_,rfl,rfl,_,hi,rfl,p,_,rfl,hp,wf.low,lp,wf.len,op,wf.one,_,rfl,?_⟩
  cases h1:pwB p pr[st+j] with
  | false =>
    rw [h1] at q
    exact iteF (hN _ ⟨_,rfl,hlt,by simpa [Nat.add_assoc] using q⟩)
  | true =>
    rw [h1] at q
    refine iteT ?_
    refine ⟨_,_,rfl,rfl,_,_,rfl,rfl,_,hi,_,rfl,_,zcu (zbn _) (by decide +kernel),_,rfl,?_⟩
    rw [if_neg Bool.false_ne_true,zhs]
    rw [if_pos rfl] at q
    cases h2:pr[st+j].1 with
    | true=>rw [h2] at q;exact iteT ⟨_,_,rfl,rfl,q⟩
    | false=>rw [h2] at q;exact iteF ⟨_,_,rfl,rfl,_,rfl,q⟩
end
noncomputable def pwuF:List PyData->(R->Prop)->Prop:=fun ds Q=>∃ (ps other:List Pc),(ds = [zaf ps,zaf other]\/ds = [.list (ps.map encP),zaf other])/\(∀ p ∈ ps,LowP p/\p.2.length<=100/\OneP p)/\WfPr other/\Q (.o (.bool (pwi other ps 0)))
section
variable {P : Program} {w : World} {K : PySem.W.Frag} {mg : Str → Option Value} {base : Heap} {k : Nat}
noncomputable abbrev zc8:Stmt:=top 4
theorem zim:FnScope ["one", "other", "place", "piece"] ["one", "other"] (zag zc8):=⟨rfl,rfl,rfl,by decide +kernel,rfl,by decide +kernel,by decide +kernel⟩
theorem zco (B:Blt mg) (zbz:Def3 P w K mg base 3 "place_behind" ["product", "start", "piece"] (spO K (fun _=>True) 3 pbF)) (T:Top3 K mg "product_within" zc8):Def3 P w K mg base 4 "product_within" ["one", "other"] (spO K (fun _=>True) 2 pwuF):=by
 refine mk_O T zim (fun _ _ _ _ _ _ us hl=>len2 hl fun _ _=>rfl) rfl fun f cdv A outer s H E O hφ C=>⟨_,(zae (zan 2 zaj) (zae (zbt C (j_lt C 0) (za3 (h:=1000) 3) (zae (zan 2 (zap C zbz (fun _=>trivial) (zab (zaa 1) (zab (zaa 2) (zab (zaa 3) zac))))) (zah (s_if (t_is (zaa 2) zfp) (zah (zao e_bl)) za1)))) (zah (zao e_bl)))),fun ds Qr hn q=>?_⟩
 obtain ⟨ps,other,hd0,hps,ho,q⟩:=q
 rcases hd0 with rfl | rfl
 case' inl=>refine ⟨rfl,.inr ⟨_,_,rfl,rfl,_,rfl,rfl,?_⟩⟩
 case' inr=>refine ⟨rfl,.inl ⟨_,rfl,?_⟩⟩
 all_goals
  refine zau (fun j ρ=>∃ (pl:Nat) (o:Option DV),ρ = [some (.im _),some (.im (zaf other)),some (.im (.int pl)),o]/\pl<=other.length/\Qr (.o (.bool (pwi other (ps.drop j) pl)))) ⟨0,none,rfl,Nat.zero_le _,q⟩ (fun ρ zz=>?_) fun j d ρ N hd hN zz=>?_
  ·obtain ⟨pl,o,e,hj,q⟩:=zz
   rw [List.length_map,List.drop_eq_nil_of_le (Nat.le_refl _)] at q
   exact q
  ·obtain ⟨pl,o,e,hj,q⟩:=zz
   subst e
   rw [List.getElem?_map] at hd
   obtain ⟨p,hp,rfl⟩:=Option.map_eq_some_iff.mp hd
   obtain ⟨hlt,e⟩:=List.getElem?_eq_some_iff.mp hp
   rw [List.drop_eq_getElem_cons hlt,e,pwi] at q
   obtain ⟨hp1,hp2,hp3⟩:=hps p (e ▸ List.getElem_mem hlt)
   refine ⟨zdq p,?_⟩
   refine ⟨_,_,rfl,rfl,_,_,rfl,rfl,_,_,rfl,rfl,rfl,other,pl,p,rfl,ho,hp1,hp2,hp3,hj,?_⟩
   cases h1:pb other pl p with
   | none =>
     rw [h1] at q
     refine ⟨rfl,_,_,rfl,rfl,rfl,_,rfl,?_⟩
     exact iteT q
   | some n =>
     rw [h1] at q
     refine ⟨rfl,_,_,rfl,rfl,rfl,_,rfl,?_⟩
     exact iteF (hN _ ⟨n,_,rfl,zja hj h1,q⟩)
end
noncomputable def zs8:List PyData->(R->Prop)->Prop:=fun ds Q=>∃ pr:List Pc,ds = [zaf pr]/\WfPr pr/\Q (.o (zaf (zbx pr)))
theorem zms {T:List Pc} {t:Pc}:idxF (.list ((t::T).reverse.map encP)) (.int (-1))=some (.o (encP t)):=by
 show (atI ((t::T).reverse.map encP) (-1)).map R.o=_
 rw [List.reverse_cons,List.map_append]
 show (atI (T.reverse.map encP ++ [encP t]) (-1)).map R.o=_
 rw [zn5]
 rfl
section
variable {P : Program} {w : World} {K : PySem.W.Frag} {mg : Str → Option Value} {base : Heap} {k : Nat}
noncomputable abbrev zdv:Stmt:=top 5
theorem zj8:FnScope ["product", "kept", "piece"] ["product"] (zag zdv):=⟨rfl,rfl,rfl,by decide +kernel,rfl,by decide +kernel,by decide +kernel⟩
theorem zcz (B:Blt mg) (zc7:Def3 P w K mg base 1 "covers" ["piece", "other"] (spO K (fun _=>True) 2 covF)) (T:Top3 K mg "plain_product" zdv):Def3 P w K mg base 2 "plain_product" ["product"] (spO K (fun _=>True) 1 zs8):=by
 refine mk_O T zj8 (fun _ _ _ _ _ _ us hl=>len1 hl fun _=>rfl) rfl fun f cdv A outer s H E O hφ C=>⟨_,(zae (zan 1 (zcb zac)) (zae (zbt C (zcj (zcw C (zaa 0))) (za3 (h:=1000) 2) (zae (zj6 C (t_w (zih (zql C (zaa 1)) (zf8 (zia (zap C zc7 (fun _=>trivial) (zab (zaa 2) (zab (za2 C (zaa 1) zq6) zac))))))) (zah (z3v 1 C))) (zah (s_if (zwo (t_w (zih (zql C (zaa 1)) (zf8 (zia (zap C zc7 (fun _=>trivial) (zab (za2 C (zaa 1) zq6) (zab (zaa 2) zac)))))))) (zah (zem 1 C (zaa 2))) za1)))) (zah (zao (zde C B (zab (zaa 1) zac)))))),fun ds Qr hn q=>?_⟩
 obtain ⟨pr,rfl,hpr,q⟩:=q
 have sz:=sizeLine_eq
 have hl:=hpr.len
 refine ⟨Nat.zero_le _,rfl,_,_,rfl,rfl,_,rfl,rfl,?_⟩
 refine zau (fun j ρ=>∃ (T:List Pc) (o:Option DV),ρ = [some (.im (zaf pr)),some (.own (T.reverse.map encP)),o]/\(∀ p ∈ T,p ∈ pr)/\T.length<=j/\Qr (.o (zaf ((pr.drop j).foldl zbq T).reverse))) ⟨[],none,rfl,(fun p hp=>nomatch hp),Nat.zero_le _,q⟩ (fun ρ zz=>?_) fun j d ρ N hd hN zz=>?_
 ·obtain ⟨T,o,e,h1,h2,q⟩:=zz
  subst e
  rw [List.length_map,List.drop_eq_nil_of_le (Nat.le_refl _)] at q
  exact ⟨_,_,rfl,rfl,_,rfl,q⟩
 ·obtain ⟨T,o,e,h1,h2,q⟩:=zz
  subst e
  rw [List.getElem?_map] at hd
  obtain ⟨p,hp,rfl⟩:=Option.map_eq_some_iff.mp hd
  obtain ⟨hlt,e⟩:=List.getElem?_eq_some_iff.mp hp
  have hmem:p ∈ pr:=e ▸ List.getElem_mem hlt
  have wp:=hpr.all p hmem
  rw [List.drop_eq_getElem_cons hlt,e,List.foldl_cons] at q
  refine ⟨zdq p,?_⟩
  refine ⟨fun m ρ=>∃ S:List Pc,ρ = [some (.im (zaf pr)),some (.own (S.reverse.map encP)),some (.im (encP p))]/\m=S.length/\(∀ x ∈ S,x ∈ pr)/\S.length<=T.length/\popC p S=popC p T,⟨_,T,rfl,rfl,h1,Nat.le_refl _,rfl⟩,?_⟩
  rintro m ρ ⟨S,rfl,rfl,s1,s2,s3⟩
  have out:popC p S=S->ifS (notT (andT (truD (vD 1)) (bD (calD 2 covF (zcc (opDE (fn2 idxF) (vD 1) (cD (.int (-1)))) (zcc (vD 2) aNil)))))) (appS 1 (vD 2)) (fun Dd ρ=>Dd.nx ρ) { nx:=N,rt:=Qr,ct:=N,bk:=fun ρ=>retS (zbm (fn1 tupF) (zcc (vD 1) aNil)) { nx:=fun _=>Qr (.o .none),rt:=Qr } ρ } [some (.im (zaf pr)),some (.own (S.reverse.map encP)),some (.im (encP p))]:=fun hS=>by
   have hT:popC p T=S:=by rw [<- s3];exact hS
   cases S with
   | nil =>
     refine ⟨_,_,rfl,rfl,_,rfl,?_⟩
     refine iteF (iteT ?_)
     refine ⟨_,rfl,_,_,rfl,rfl,zdq p,by show 0<sizeLine;lia,hN _ ⟨[p],_,rfl,fun x hx=>by rw [List.mem_singleton.mp hx];exact hmem,by simp,?_⟩⟩
     have e2:zbq T p = [p]:=by unfold zbq;rw [hT]
     rw [e2] at q
     exact q
   | cons t S =>
     have wt:=hpr.all t (s1 t List.mem_cons_self)
     have hne:truB (.list ((t::S).reverse.map encP))=some true:=by
      show some (!List.isEmpty _)=_
      rw [List.reverse_cons,List.map_append]
      cases (S.reverse.map encP) <;> rfl
     have e2:zbq T p=if covB t p=true then t::S else p::t::S:=by unfold zbq;rw [hT]
     refine ⟨_,_,rfl,rfl,_,hne,iteT ?_⟩
     refine ⟨_,_,rfl,rfl,_,zms,_,_,rfl,rfl,rfl,t,p,rfl,wt.low,wp.low,wt.len,wp.len,_,rfl,?_⟩
     cases c:covB t p with
     | true =>
       rw [c,if_pos rfl] at e2
       rw [e2] at q
       refine iteF (hN _ ⟨t::S,_,rfl,s1,by lia,q⟩)
     | false =>
       rw [c,if_neg Bool.false_ne_true] at e2
       rw [e2] at q
       refine iteT ⟨_,rfl,_,_,rfl,rfl,zdq p,by rw [List.length_map,List.length_reverse];lia,hN _ ⟨p::t::S,some (.im (encP p)),?_,fun x hx=>?_,by rw [List.length_cons];lia,q⟩⟩
       ·rw [List.reverse_cons (a:=p),List.map_append]
        rfl
       ·rcases List.mem_cons.mp hx with rfl | hx
        ·exact hmem
        ·exact s1 x hx
  cases S with
  | nil=>exact ⟨_,_,rfl,rfl,_,rfl,iteF (iteF (out rfl))⟩
  | cons t S =>
    have wt:=hpr.all t (s1 t List.mem_cons_self)
    have hne:truB (.list ((t::S).reverse.map encP))=some true:=by
     show some (!List.isEmpty _)=_
     rw [List.reverse_cons,List.map_append]
     cases (S.reverse.map encP) <;> rfl
    refine ⟨_,_,rfl,rfl,_,hne,iteT ?_⟩
    refine ⟨_,_,rfl,rfl,_,_,rfl,rfl,_,zms,rfl,p,t,rfl,wp.low,wt.low,wp.len,wt.len,_,rfl,?_⟩
    cases c:covB p t with
    | true =>
      refine iteT ⟨_,rfl,?_,S.length,Nat.lt_succ_self _,S,?_,rfl,fun x hx=>s1 x (List.mem_cons_of_mem _ hx),by rw [List.length_cons] at s2;lia,?_⟩
      ·rw [List.reverse_cons,List.map_append]
       simp
      ·show [_,some (DV.own (List.dropLast _)),_]=_
       rw [List.reverse_cons,List.map_append]
       show [_,some (DV.own (List.dropLast (_ ++ [encP t]))),_]=_
       rw [List.dropLast_concat]
      ·rw [<- s3,popC,if_pos c]
    | false=>exact iteF (out (by rw [popC,if_neg (by rw [c];exact Bool.false_ne_true)]))
end
noncomputable def zwu:List PyData->(R->Prop)->Prop:=fun ds Q=>∃ (p:List Pc) (es:List (List Pc)),ds = [zaf p,.list (es.map zaf)]/\WfPr p/\(∀ e ∈ es,WfPr e)/\Q (.o (.bool (zce es p)))
theorem zdo {α:Type} {l:List α} {j:Nat} {x:α} (h:l[j]? = some x):l.take (j+1)=l.take j ++ [x]:=by
 obtain ⟨hl,e⟩:=List.getElem?_eq_some_iff.mp h
 rw [List.take_succ_eq_append_getElem hl,e]
section
variable {P : Program} {w : World} {K : PySem.W.Frag} {mg : Str → Option Value} {base : Heap} {k : Nat}
noncomputable abbrev zcm:Stmt:=top 6
theorem zg8:FnScope ["product", "products", "other"] ["product", "products"] (zag zcm):=⟨rfl,rfl,rfl,by decide +kernel,rfl,by decide +kernel,by decide +kernel⟩
theorem zb6 (B:Blt mg) (zco:Def3 P w K mg base 4 "product_within" ["one", "other"] (spO K (fun _=>True) 2 pwuF)) (T:Top3 K mg "is_within_another" zcm):Def3 P w K mg base 5 "is_within_another" ["product", "products"] (spO K (fun _=>True) 2 zwu):=by
 refine mk_O T zg8 (fun _ _ _ _ _ _ us hl=>len2 hl fun _ _=>rfl) rfl fun f cdv A outer s H E O hφ C=>⟨_,(zae (zbt C (zie C 1) (za3 (h:=1000) 2) (zah (s_if (t_w (zih (t_ne C (zaa 2) (zaa 0)) (zf8 (zia (zap C zco (fun _=>trivial) (zab (zaa 0) (zab (zaa 2) zac))))))) (zah (zao e_bl)) za1))) (zah (zao e_bl))),fun ds Qr hn q=>?_⟩
 obtain ⟨p,es,rfl,hp,he,q⟩:=q
 refine ⟨_,rfl,?_⟩
 refine zau (fun j ρ=>∃ o2,ρ = [some (.im (zaf p)),some (.im (.list (es.map zaf))),o2]/\(es.take j).any (fun o=>!decide (o=p) && za0 p o)=false) ⟨none,rfl,rfl⟩ (fun ρ zz=>?_) fun j d ρ N hd hN zz=>?_
 ·obtain ⟨o2,e,h⟩:=zz
  subst e
  rw [List.length_map,List.take_of_length_le (Nat.le_refl _)] at h
  have e2:zce es p=false:=h
  rw [e2] at q
  exact q
 ·obtain ⟨o2,e,h⟩:=zz
  subst e
  rw [List.getElem?_map] at hd
  obtain ⟨o,ho,rfl⟩:=Option.map_eq_some_iff.mp hd
  have mo:=List.mem_of_getElem? ho
  have wo:=he o mo
  have nx:(!decide (o=p) && za0 p o)=false->(es.take (j+1)).any (fun o=>!decide (o=p) && za0 p o)=false:=fun z=>by
   rw [zdo ho,List.any_append,h,List.any_cons,z]
   rfl
  refine ⟨zar o,?_⟩
  refine ⟨_,_,rfl,rfl,_,_,rfl,rfl,_,zsi (fun x hx=>(wo.all x hx).low) (fun x hx=>(hp.all x hx).low),_,rfl,?_⟩
  rw [if_pos rfl]
  by_cases e:o=p
  ·rw [decide_eq_true e]
   refine iteF ?_
   exact hN _ ⟨_,rfl,nx (by simp [e])⟩
  ·rw [decide_eq_false e]
   refine iteT ?_
   refine ⟨_,_,rfl,rfl,_,_,rfl,rfl,rfl,p,o,.inl rfl,fun x hx=>⟨(hp.all x hx).low,(hp.all x hx).len,(hp.all x hx).one⟩,wo,_,rfl,?_⟩
   rw [zbw hp wo]
   cases c:za0 p o with
   | true =>
     refine iteT ?_
     have e2:zce es p=true:=List.any_eq_true.mpr ⟨o,mo,by simp [e,c]⟩
     rw [e2] at q
     exact q
   | false=>exact iteF (hN _ ⟨_,rfl,nx (by simp [c])⟩)
end
noncomputable def zna:List PyData->(R->Prop)->Prop:=fun ds Q=>∃ es:List (List Pc),(ds = [encE es]\/ds = [.list (es.map zaf)])/\(∀ e ∈ es,WfPr e)/\es.length<64/\∀ rs,PlainE es rs->Q (.o (encE rs))
theorem zlu {pr:List Pc} (h:WfPr pr):WfPr (zbx pr):=⟨fun p hp=>h.all p ((zdk pr).subset hp),Nat.le_trans (zdk pr).length_le h.len⟩
theorem zv8 {es:List (List Pc)} {zs:List PyData} (nd:zs.Nodup) (mem:∀ d,d ∈ zs↔d ∈ es.map fun e=>zaf (zbx e)) (up:zs.Pairwise fun a b=>HK.dlt a b=true):∃ us,zs=us.map zaf/\Srt es us:=by
 have:∃ us:List (List Pc),zs=us.map zaf:=by
  have go:∀ l:List PyData,(∀ d ∈ l,∃ p,d=zaf p)->∃ us:List (List Pc),l=us.map zaf:=by
   intro l
   induction l with
   | nil=>exact fun _=>⟨[],rfl⟩
   | cons d l ih =>
     intro h
     obtain ⟨us,e⟩:=ih fun x hx=>h x (List.mem_cons_of_mem _ hx)
     obtain ⟨p,rfl⟩:=h d (by simp)
     exact ⟨p::us,by rw [e];rfl⟩
  refine go zs fun d hd=>?_
  obtain ⟨e,_,rfl⟩:=List.mem_map.mp ((mem d).mp hd)
  exact ⟨_,rfl⟩
 obtain ⟨us,rfl⟩:=this
 refine ⟨us,rfl,?_,fun p=>?_,up⟩
 ·rw [List.nodup_iff_pairwise_ne,List.pairwise_map] at nd
  exact nd.imp fun h e=>h (by rw [e])
 ·have:=mem (zaf p)
  rw [List.mem_map,List.mem_map] at this
  rw [List.mem_map]
  constructor
  ·intro hp
   obtain ⟨e,he,e2⟩:=this.mp ⟨p,hp,rfl⟩
   exact ⟨e,he,zer e2⟩
  ·rintro ⟨e,he,rfl⟩
   obtain ⟨p',hp',e2⟩:=this.mpr ⟨e,he,rfl⟩
   rw [<- zer e2]
   exact hp'
section
variable {P : Program} {w : World} {K : PySem.W.Frag} {mg : Str → Option Value} {base : Heap} {k : Nat}
noncomputable abbrev zc5:Stmt:=top 7
theorem zis:FnScope ["products", "unlike"] ["products"] (zag zc5):=⟨rfl,rfl,rfl,by decide +kernel,rfl,by decide +kernel,by decide +kernel⟩
theorem zcn (B:Blt mg) (zcz:Def3 P w K mg base 2 "plain_product" ["product"] (spO K (fun _=>True) 1 zs8)) (zb6:Def3 P w K mg base 5 "is_within_another" ["product", "products"] (spO K (fun _=>True) 2 zwu)) (T:Top3 K mg "plain_products" zc5):Def3 P w K mg base 6 "plain_products" ["products"] (spO K (fun _=>True) 1 zna):=by
 refine mk_O T zis (fun _ _ _ _ _ _ us hl=>len1 hl fun _=>rfl) rfl fun f cdv A outer s H E O hφ C=>⟨_,(zae (zan 1 (zrc C B (zcx 1 ["product", "products", "unlike"] C (fun _ => .of rfl (by kernel_rfl)) (i_lt C (zaa 0)) (za3 0) zfa (zap (C.comp _ _) zcz (fun _=>trivial) (zab (zaa 0) zac))))) (zah (zao (zde C B (zab (zcx 1 ["product", "products", "unlike"] C (fun _ => .of rfl (by kernel_rfl)) (zsp C (zaa 1)) (za3 0) (zw3 (zwo (zia (zap (C.comp _ _) zb6 (fun _=>trivial) (zab (zaa 0) (zab (zaa 2) zac)))))) (zaa 0)) zac))))),fun ds Qr hn q=>?_⟩
 obtain ⟨es,hd0,he,hl,q⟩:=q
 have sz:=sizeLine_eq
 rcases hd0 with rfl | rfl
 case' inl=>refine .inr ⟨_,_,rfl,rfl,_,rfl,?_⟩
 case' inr=>refine .inl ⟨_,_,rfl,rfl,_,rfl,?_⟩
 all_goals
  refine zgy (α:=List Pc) (enc:=zaf) (e:=fun e=>zaf (zbx e)) (fun e hm P hP=>⟨_,_,rfl,rfl,rfl,e,rfl,he e hm,hP _ rfl⟩) (by lia) ?_
  refine ⟨_,shPr,zaf [],rfl,fun d hd=>?_,zb8 _,fun d hd=>?_,by rw [List.length_map];exact hl,fun zs h1 h2 h3=>?_⟩
  ·obtain ⟨e,hm,rfl⟩:=List.mem_map.mp hd
   exact zxn fun p hp=>((zlu (he e hm)).all p hp).low
  ·obtain ⟨e,hm,rfl⟩:=List.mem_map.mp hd
   exact zb8 _
  ·obtain ⟨us,rfl,S⟩:=zv8 h1 h2 h3
   refine ⟨zbf zar us,?_⟩
   have wu:∀ u ∈ us,WfPr u:=fun u hu=>by
    obtain ⟨e,hm,rfl⟩:=List.mem_map.mp ((S.mem u).mp hu)
    exact zlu (he e hm)
   have ul:us.length<64:=by
    have h4:us.length<=(es.map zbx).length:=TB.len_nd S.nd fun k hk=>(S.mem k).mp hk
    rw [List.length_map] at h4
    lia
   refine ⟨_,_,rfl,rfl,_,rfl,?_⟩
   refine zvq (α:=List Pc) (enc:=zaf) (p:=fun u=>!zce us u) (e:=zaf) (fun u hu Pn Py hn hy=>?_) (by lia) ?_
   ·refine ⟨_,_,rfl,rfl,_,_,rfl,rfl,rfl,u,us,rfl,wu u hu,wu,_,rfl,?_⟩
    cases c:zce us u with
    | true=>exact iteF (hn (by simp [c]))
    | false=>exact iteT ⟨_,_,rfl,rfl,hy (by simp [c]) _ rfl⟩
   ·exact ⟨_,rfl,q _ ⟨us,S,rfl⟩⟩
end
noncomputable def zjg:List PyData->(R->Prop)->Prop:=fun ds Q=>∃ es:List (List Pc),ds = [encE es]/\(∀ e ∈ es,WfPr e)/\es.length<64/\∀ rs,PlainE es rs->Q (.o (encE rs))
section
variable {P : Program} {w : World} {K : PySem.W.Frag} {mg : Str → Option Value} {base : Heap} {k : Nat}
noncomputable abbrev zng:Stmt:=top 9
theorem zyu:FnScope ["expression"] ["expression"] (zag zng):=⟨rfl,rfl,rfl,by decide +kernel,rfl,by decide +kernel,by decide +kernel⟩
theorem zd4 (B:Blt mg) (zcn:Def3 P w K mg base 6 "plain_products" ["products"] (spO K (fun _=>True) 1 zna)) (T:Top3 K mg "plain" zng):Def3 P w K mg base 7 "plain" ["expression"] (spO K (fun _=>True) 1 zjg):=by
 refine mk_O T zyu (fun _ _ _ _ _ _ us hl=>len1 hl fun _=>rfl) rfl fun f cdv A outer s H E O hφ C=>⟨_,(zah (zao (zap C zcn (fun _=>trivial) (zab (zaa 0) zac)))),fun ds Qr hn q=>?_⟩
 obtain ⟨es,rfl,he,hl,q⟩:=q
 exact ⟨_,_,rfl,rfl,rfl,es,.inl rfl,he,hl,q⟩
end
noncomputable def zhi:List PyData->(R->Prop)->Prop:=fun ds Q=>∃ (es:List (List Pc)) (c:Nat),ds = [encE es,.str (tx [c])]/\(∀ e ∈ es,WfPr e)/\es.length<=1000/\zbv c/\Q (.o (encE (zb4 es c)))
theorem zu5 {p:List Pc} {i:Nat}:slcF (some ((i:Nat):Int)) none (zaf p)=some (.o (zaf (p.drop i))):=by
 show some (R.o (.tuple (cutL (p.map encP) (some ((i:Nat):Int)) none)))=_
 rw [zc9,<- List.map_drop]
 rfl
theorem zme (es:List (List Pc)) (c:Nat):(zb4 es c).length<=es.length:=List.length_filterMap_le _ _
theorem zxj {es:List (List Pc)} {c:Nat} (h:∀ e ∈ es,WfPr e):∀ e ∈ zb4 es c,WfPr e:=fun e he=>by
 obtain ⟨p,hp,e2⟩:=List.mem_filterMap.mp he
 obtain ⟨i,_,rfl⟩:=Option.map_eq_some_iff.mp e2
 exact ⟨fun x hx=>(h p hp).all x (List.mem_of_mem_drop hx),by rw [List.length_drop];have:=(h p hp).len;lia⟩
section
variable {P : Program} {w : World} {K : PySem.W.Frag} {mg : Str → Option Value} {base : Heap} {k : Nat}
noncomputable abbrev zes:Stmt:=top 10
theorem zm8:FnScope ["expression", "letter", "ends", "product", "place"] ["expression", "letter"] (zag zes):=⟨rfl,rfl,rfl,by decide +kernel,rfl,by decide +kernel,by decide +kernel⟩
theorem zdr (B:Blt mg) (zbz:Def3 P w K mg base 3 "place_behind" ["product", "start", "piece"] (spO K (fun _=>True) 3 pbF)) (T:Top3 K mg "ends_behind" zes):Def3 P w K mg base 4 "ends_behind" ["expression", "letter"] (spO K (fun _=>True) 2 zhi):=by
 refine mk_O T zm8 (fun _ _ _ _ _ _ us hl=>len2 hl fun _ _=>rfl) rfl fun f cdv A outer s H E O hφ C=>⟨_,(zae (zan 2 (zcb zac)) (zae (zbt C (zcj (zcw C (zaa 0))) (za3 (h:=1000) 3) (zae (zan 4 (zap C zbz (fun _=>trivial) (zab (zaa 3) (zab zaj (zab (za8 (zab zb3 (zab (zaa 1) zac))) zac))))) (zah (s_if (zpd (zaa 4) zfp) (zah (zem 2 C (zbd C (zaa 3) (zbo (zaa 4)) zbp))) za1)))) (zah (zao (zde C B (zab (zaa 2) zac)))))),fun ds Qr hn q=>?_⟩
 obtain ⟨es,c,rfl,he,hl,hc,q⟩:=q
 have sz:=sizeLine_eq
 refine ⟨Nat.zero_le _,rfl,?_⟩
 refine ⟨_,_,rfl,rfl,_,rfl,rfl,?_⟩
 refine zau (fun j ρ=>∃ o3 o4:Option DV,ρ = [some (.im (encE es)),some (.im (.str (tx [c]))),some (.own ((zb4 (es.take j) c).map zaf)),o3,o4]) ⟨none,none,rfl⟩ (fun ρ zz=>?_) fun j d ρ N hd hN zz=>?_
 ·obtain ⟨o3,o4,e⟩:=zz
  subst e
  rw [List.length_map,List.take_of_length_le (Nat.le_refl _)]
  exact ⟨_,_,rfl,rfl,_,rfl,q⟩
 ·obtain ⟨o3,o4,e⟩:=zz
  subst e
  rw [List.getElem?_map] at hd
  obtain ⟨p,hp,rfl⟩:=Option.map_eq_some_iff.mp hd
  have wp:=he p (List.mem_of_getElem? hp)
  have lj:=(List.getElem?_eq_some_iff.mp hp).1
  refine ⟨zar p,?_⟩
  refine ⟨_,_,rfl,rfl,_,_,rfl,rfl,by show 2<=sizeLine;lia,rfl,p,0,(false,[c]),rfl,wp,fun x hx=>by rw [List.mem_singleton.mp hx];exact hc,(by show 1<=100;decide),fun _=>rfl,Nat.zero_le _,?_⟩
  have e2:zb4 (es.take (j+1)) c=zb4 (es.take j) c++((pb p 0 (false,[c])).map fun i=>p.drop i).toList:=by
   unfold zb4
   rw [zdo hp,List.filterMap_append]
   rw [List.filterMap_cons]
   cases pb p 0 (false,[c]) <;> rfl
  cases h1:pb p 0 (false,[c]) with
  | none =>
    rw [h1] at e2
    refine ⟨rfl,_,_,rfl,rfl,rfl,_,rfl,?_⟩
    refine iteF (hN _ ⟨some (.im (zaf p)),some (.im (optD none)),?_⟩)
    rw [e2,show (Option.map (fun i=>p.drop i) (none:Option Nat)).toList = [] from rfl,List.append_nil]
    rfl
  | some n =>
    rw [h1] at e2
    have el:=zme (es.take j) c
    rw [List.length_take] at el
    refine ⟨rfl,_,_,rfl,rfl,rfl,_,rfl,?_⟩
    refine iteT ⟨_,rfl,_,_,rfl,rfl,_,_,rfl,rfl,_,rfl,_,zu5,zar _,by rw [List.length_map];lia,hN _ ⟨some (.im (zaf p)),some (.im (optD (some n))),?_⟩⟩
    rw [e2,List.map_append]
    rfl
end
noncomputable def zpi:List PyData->(R->Prop)->Prop:=fun ds Q=>∃ (es:List (List Pc)) (c:Nat),ds = [encE es,.str (tx [c])]/\(∀ e ∈ es,WfPr e)/\es.length<64/\zbv c/\∀ rs,PlainE (zb4 es c) rs->Q (.o (encE rs))
section
variable {P : Program} {w : World} {K : PySem.W.Frag} {mg : Str → Option Value} {base : Heap} {k : Nat}
noncomputable abbrev zcg:Stmt:=top 11
theorem zfx:FnScope ["expression", "letter"] ["expression", "letter"] (zag zcg):=⟨rfl,rfl,rfl,by decide +kernel,rfl,by decide +kernel,by decide +kernel⟩
theorem zbj (B:Blt mg) (zd4:Def3 P w K mg base 7 "plain" ["expression"] (spO K (fun _=>True) 1 zjg)) (zdr:Def3 P w K mg base 4 "ends_behind" ["expression", "letter"] (spO K (fun _=>True) 2 zhi)) (T:Top3 K mg "expression_behind" zcg):Def3 P w K mg base 8 "expression_behind" ["expression", "letter"] (spO K (fun _=>True) 2 zpi):=by
 refine mk_O T zfx (fun _ _ _ _ _ _ us hl=>len2 hl fun _ _=>rfl) rfl fun f cdv A outer s H E O hφ C=>⟨_,(zah (zao (zap C zd4 (fun _=>trivial) (zab (zap C zdr (fun _=>trivial) (zab (zaa 0) (zab (zaa 1) zac))) zac)))),fun ds Qr hn q=>?_⟩
 obtain ⟨es,c,rfl,he,hl,hc,q⟩:=q
 exact ⟨_,_,rfl,rfl,_,_,rfl,rfl,rfl,es,c,rfl,he,by lia,hc,rfl,zb4 es c,rfl,zxj he,Nat.lt_of_le_of_lt (zme es c) hl,q⟩
end
noncomputable def ltrs (es:List (List Pc)):List Nat:=(es.flatten.map (·.2)).flatten
noncomputable def zig:List PyData->(R->Prop)->Prop:=fun ds Q=>∃ es:List (List Pc),ds = [encE es]/\(∀ e ∈ es,WfPr e)/\(ltrs es).length<64/\es.flatten.length<=1000/\∀ z:List Nat,z.Nodup->(∀ c,c ∈ z↔c ∈ ltrs es)->z.Pairwise (· < ·)->Q (.n (z.map fun c => .str (tx [c])))
section
variable {P : Program} {w : World} {K : PySem.W.Frag} {mg : Str → Option Value} {base : Heap} {k : Nat}
noncomputable abbrev zfc:Stmt:=top 12
theorem zob:FnScope ["expression", "texts", "product"] ["expression"] (zag zfc):=⟨rfl,rfl,rfl,by decide +kernel,rfl,by decide +kernel,by decide +kernel⟩
theorem zea (B:Blt mg) (T:Top3 K mg "letters_in" zfc):Def3 P w K mg base 1 "letters_in" ["expression"] (spO K (fun _=>True) 1 zig):=by
 refine mk_O T zob (fun _ _ _ _ _ _ us hl=>len1 hl fun _=>rfl) rfl fun f cdv A outer s H E O hφ C=>⟨_,(zae (zan 1 (zcb zac)) (zae (zbt C (zcj (zcw C (zaa 0))) (za3 (h:=1000) 2) (zah (z4j 1 C (zcx 1 ["piece", "expression", "texts", "product"] C (fun _ => .of rfl (by kernel_rfl)) (zcw C (zaa 2)) (za3 0) zfa (za2 (C.comp _ _) (zaa 0) zaj))))) (zah (zao (ztc C B (znc C zb3 (zaa 1))))))),fun ds Qr hn q=>?_⟩
 obtain ⟨es,rfl,he,hl,hf,q⟩:=q
 have sz:=sizeLine_eq
 refine ⟨Nat.zero_le _,rfl,?_⟩
 refine ⟨_,_,rfl,rfl,_,rfl,rfl,?_⟩
 have i1:∀ p:Pc,idxF (encP p) (.int 1)=some (.o (.str (tx p.2))):=fun p=>zpr (i:=1) rfl
 refine zau (fun j ρ=>∃ o2:Option DV,ρ = [some (.im (encE es)),some (.own (((es.take j).flatten.map (·.2)).map tS)),o2]) ⟨none,rfl⟩ (fun ρ zz=>?_) fun j d ρ N hd hN zz=>?_
 ·obtain ⟨o2,e⟩:=zz
  subst e
  rw [List.length_map,List.take_of_length_le (Nat.le_refl _)]
  refine ⟨_,rfl,_,_,rfl,rfl,?_⟩
  obtain ⟨ys,f1,f2,f3⟩:=zpt (es.flatten.map (·.2)) (by show (ltrs es).length<=_;lia)
  refine ⟨ys,f1,f2,?_⟩
  rw [f3]
  refine ⟨(ltrs es).map sg,.inl ⟨_,rfl,by rw [zbe];rfl⟩,by rw [List.length_map];exact hl,fun zs k1 k2 k3=>?_⟩
  obtain ⟨z,rfl,z1,z2,z3⟩:=z0c k1 k2 k3
  have:=q z z1 z2 z3
  rw [List.map_map]
  exact this
 ·obtain ⟨o2,e⟩:=zz
  subst e
  rw [List.getElem?_map] at hd
  obtain ⟨p,hp,rfl⟩:=Option.map_eq_some_iff.mp hd
  have wp:=he p (List.mem_of_getElem? hp)
  have lp:=wp.len
  have tl:(es.take j).flatten.length<=1000:=by
   have:es.flatten=(es.take j).flatten++(es.drop j).flatten:=by rw [<- List.flatten_append,List.take_append_drop]
   have:=congrArg List.length this
   rw [List.length_append] at this
   lia
  refine ⟨zar p,?_⟩
  refine ⟨_,rfl,_,_,rfl,rfl,_,rfl,?_⟩
  refine zgy (α:=Pc) (enc:=encP) (e:=fun x=>tS x.2) (fun x hm P hP=>⟨_,_,rfl,rfl,_,i1 x,hP _ rfl⟩) (by lia) ?_
  refine ⟨_,rfl,zbf (fun _=>rfl) _,by rw [List.length_map,List.length_map,List.length_map];lia,hN _ ⟨some (.im (zaf p)),?_⟩⟩
  rw [zdo hp,List.flatten_append,List.map_append,List.map_append]
  simp
end
structure PtIn (es fs:List (List Pc)):Prop where
 r1:∀ e ∈ es,RP e
 r2:∀ e ∈ fs,RP e
 n1:es.length<=2
 n2:fs.length<=2
 l1:∀ e ∈ es,e.length<=5
 l2:∀ e ∈ fs,e.length<=5
 t1:∀ e ∈ es,∀ x ∈ e,x.2.length<=3
 t2:∀ e ∈ fs,∀ x ∈ e,x.2.length<=3
noncomputable def PtRes (es fs:List (List Pc)) (d:PyData):Prop:=(d = .none/\∀ w,¬ zay es fs w)\/∃ w,d = .str (tx w)/\zbi (zay es fs) w/\LowW w/\w.length<=3000
noncomputable def zlw:List PyData->(R->Prop)->Prop:=fun ds Q=>∃ es fs:List (List Pc),ds = [encE es,encE fs]/\PtIn es fs /\
 ∀ d,PtRes es fs d->Q (.o d)
theorem zmn:∀ {es:List (List Pc)},(∀ e ∈ es,e.length<=5)->(∀ e ∈ es,∀ x ∈ e,x.2.length<=3)->(ltrs es).length<=es.length * 15
 | [],_,_=>Nat.zero_le _
 | p::es,h1,h2=>by
   have ih:=zmn (es:=es) (fun e he=>h1 e (List.mem_cons_of_mem _ he)) fun e he=>h2 e (List.mem_cons_of_mem _ he)
   unfold ltrs at ih ⊢
   rw [List.flatten_cons,List.map_append,List.flatten_append,List.length_append,List.length_cons]
   have k:∀ l:List Pc,(∀ x ∈ l,x.2.length<=3)->((l.map (·.2)).flatten).length<=l.length * 3:=by
    intro l
    induction l with
    | nil=>intro _;exact Nat.zero_le _
    | cons x l ih =>
      intro h
      have:=ih fun y hy=>h y (List.mem_cons_of_mem _ hy)
      have:=h x (by simp)
      rw [List.map_cons,List.flatten_cons,List.length_append,List.length_cons]
      lia
   have:=k p (h2 p (by simp))
   have:=h1 p (by simp)
   lia
theorem zkx:∀ {es:List (List Pc)},(∀ e ∈ es,e.length<=5)->es.flatten.length<=es.length * 5
 | [],_=>Nat.zero_le _
 | p::es,h=>by
   have:=zkx (es:=es) fun e he=>h e (List.mem_cons_of_mem _ he)
   have:=h p (by simp)
   rw [List.flatten_cons,List.length_append,List.length_cons]
   lia
theorem zpq (es:List (List Pc)):HK.HasSh (.arr shPr) (encE es):=⟨es.map zaf,rfl,fun d hd=>by
 obtain ⟨p,_,rfl⟩:=List.mem_map.mp hd
 exact zb8 p⟩
theorem z0n {l r:List (List Pc)} (h1:∀ p ∈ l,RP p) (h2:∀ p ∈ r,RP p) (n1:l.length<=60) (n2:r.length<=60):HK.DKey (zb7 l r):=by
 have s1:=HK.sh_hk _ _ (zpq l)
 have s2:=HK.sh_hk _ _ (zpq r)
 have y1:=zcv (fun p hp=>(h1 p hp).wf) n1
 have y2:=zcv (fun p hp=>(h2 p hp).wf) n2
 refine ⟨⟨_,rfl⟩,?_,?_,?_⟩
 ·show HK.hks [encE l,encE r]=true
  simp [HK.hks,s1,s2]
 ·unfold zb7
  simp [PyData.canLay0,PyData.canLayAll0,y1.lay,y2.lay]
 ·have:=y1.dep
  have:=y2.dep
  unfold zb7
  simp only [PyData.depth,PyData.depthAll]
  lia
theorem zf2 (t:Tr):flat (encT t)=true:=by
 show flats [.str (tx t.1),encE t.2.1,encE t.2.2]=true
 simp [flats,zcq]
 rfl
theorem me1 {a b:Nat} (h:a<=b):(2402 - b) * 2+0<(2402 - a) * 2+1:=by lia
theorem me2 {a b:Nat} (h:a<b) (k:b<=2401):(2402 - b) * 2+1<(2402 - a) * 2+1:=by lia
section
variable {P : Program} {w : World} {K : PySem.W.Frag} {mg : Str → Option Value} {base : Heap} {k : Nat}
noncomputable abbrev zho:Stmt:=top 13
theorem zro:FnScope ["one", "other", "letters", "rows", "seen", "longer", "word", "left", "right", "letter"] ["one", "other"] (zag zho):=⟨rfl,rfl,rfl,by decide +kernel,rfl,by decide +kernel,by decide +kernel⟩
theorem zfy (B:Blt mg) (zd4:Def3 P w K mg base 7 "plain" ["expression"] (spO K (fun _=>True) 1 zjg)) (zbj:Def3 P w K mg base 8 "expression_behind" ["expression", "letter"] (spO K (fun _=>True) 2 zpi)) (zea:Def3 P w K mg base 1 "letters_in" ["expression"] (spO K (fun _=>True) 1 zig)) (T:Top3 K mg "parting" zho):Def3 P w K mg base 9 "parting" ["one", "other"] (spO K (fun _=>True) 2 zlw):=by
 refine mk_O T zro (fun _ _ _ _ _ _ us hl=>len2 hl fun _ _=>rfl) rfl fun f cdv A outer s H E O hφ C=>⟨_,(zae (zan 2 (zap C zea (fun _=>trivial) (zab (zaw C (zaa 0) (zaa 1)) zac))) (zae (zan 3 (zcb (zab (za8 (zab zb3 (zab (zap C zd4 (fun _=>trivial) (zab (zaa 0) zac)) (zab (zap C zd4 (fun _=>trivial) (zab (zaa 1) zac)) zac)))) zac))) (zae (zx7 4 C) (zae (zj6 C (zql C (zaa 3)) (zae (zan 5 (zcb zac)) (zae (zix 3 (zbt C (zie C 3) (zit (h:=1000) C (zby 6 (zby 7 (zby 8 zfv)))) (zae (s_if (t_w (w_or (t_eq C (zaa 7) (zaa 8)) (zqv (z3j 4 C (za8 (zab (zaa 7) (zab (zaa 8) zac))))))) (zah z0i) za1) (zae (s_if (t_w (w_or (t_eq C (zaa 7) (za8 zac)) (zqv (t_eq C (zaa 8) (za8 zac))))) (zah (zao (zaa 6))) za1) (zae (zpa 4 C e_bl (za8 (zab (zaa 7) (zab (zaa 8) zac)))) (zah (zix 2 (zbt C (zie C 2) (za3 (h:=1000) 9) (zah (zem 5 C (za8 (zab (zaw C (zaa 6) (zaa 9)) (zab (zap C zbj (fun _=>trivial) (zab (zaa 7) (zab (zaa 9) zac))) (zab (zap C zbj (fun _=>trivial) (zab (zaa 8) (zab (zaa 9) zac))) zac)))))))))))))) (zah (zix 5 (ztf 3 5)))))) (zah (zao zfp)))))),fun ds Qr hn q=>?_⟩
 obtain ⟨es,fs,rfl,I,q⟩:=q
 have q0:(∀ w,¬ zay es fs w)->Qr (.o .none):=fun n=>q _ (.inl ⟨rfl,n⟩)
 have q1:∀ w,zbi (zay es fs) w->LowW w->w.length<=3000->Qr (.o (.str (tx w))):=fun w f l n=>q _ (.inr ⟨w,rfl,f,l,n⟩)
 have sz:=sizeLine_eq
 have wE:∀ e ∈ es,WfPr e:=fun e he=>(I.r1 e he).wf
 have wF:∀ e ∈ fs,WfPr e:=fun e he=>(I.r2 e he).wf
 have wa:∀ e ∈ es++fs,WfPr e:=fun e he=>(List.mem_append.mp he).elim (wE e) (wF e)
 have la:∀ e ∈ es++fs,e.length<=5:=fun e he=>(List.mem_append.mp he).elim (I.l1 e) (I.l2 e)
 have ta:∀ e ∈ es++fs,∀ x ∈ e,x.2.length<=3:=fun e he=>(List.mem_append.mp he).elim (I.t1 e) (I.t2 e)
 have na:(es++fs).length<=4:=by have:=I.n1;have:=I.n2;rw [List.length_append];lia
 have nn1:=I.n1
 have nn2:=I.n2
 have ll:=zmn la ta
 have lf:=zkx la
 refine ⟨_,_,rfl,rfl,_,_,rfl,rfl,_,zi9 (by lia),rfl,es++fs,rfl,wa,by lia,by lia,fun z z1 z2 z3=>?_⟩
 have lz:z.length<=60:=by
  have:=TB.len_nd z1 fun c hc=>(z2 c).mp hc
  lia
 have hz:∀ p ∈ es++fs,∀ x ∈ p,∀ c ∈ x.2,c ∈ z:=fun p hp x hx c hc=>(z2 c).mpr (List.mem_flatten.mpr ⟨x.2,List.mem_map.mpr ⟨x,List.mem_flatten.mpr ⟨p,hp,hx⟩,rfl⟩,hc⟩)
 have lowz:∀ c ∈ z,zbv c:=fun c hc=>by
  obtain ⟨t,ht,h⟩:=List.mem_flatten.mp ((z2 c).mp hc)
  obtain ⟨x,hx,rfl⟩:=List.mem_map.mp ht
  obtain ⟨p,hp,hx⟩:=List.mem_flatten.mp hx
  exact ((wa p hp).all x hx).low c h
 refine ⟨zbf (fun _=>rfl) _,?_⟩
 refine ⟨_,_,rfl,rfl,rfl,es,rfl,wE,by lia,fun l0 hl0=>⟨_,_,rfl,rfl,rfl,fs,rfl,wF,by lia,fun r0 hr0=>⟨by show 3<=sizeLine;lia,by show 1<=sizeLine;lia,?_⟩⟩⟩
 refine ⟨by show flats [encT ([],l0,r0)]=true;rw [flats,zf2];rfl,?_⟩
 have lE:∀ {w:List Nat} {l:List (List Pc)},LR es w l->l.length<=2:=fun h=>Nat.le_trans h.ln nn1
 have lF:∀ {w:List Nat} {l:List (List Pc)},LR fs w l->l.length<=2:=fun h=>Nat.le_trans h.ln nn2
 have eqE:∀ {l r:List (List Pc)},(∀ p ∈ l,RP p)->(∀ p ∈ r,RP p)->l.length<=2->r.length<=2->eqF false (encE l) (encE r)=some (.o (.bool (decide (l=r)))):=fun h1 h2 h3 h4=>zsx (neg:=false) zfi (zcv (fun p hp=>(h1 p hp).wf) h3) (zcv (fun p hp=>(h2 p hp).wf) h4)
 have kf:∀ {S:List Nat->Prop} {ks:List PyData},ks.Nodup->(∀ k ∈ ks,Key es fs S k)->ks.length<=2401:=fun nd h=>zvm wa la (by rw [List.length_append] at na;exact na) nd h
 refine ⟨fun m ρ=>∃ (n:Nat) (ts:List Tr) (ks vs:List PyData) (d2 d3:DV) (o5 o6 o7 o8 o9:Option DV),ρ = [some (.im (encE es)),some (.im (encE fs)),some d2,some d3,some (.gen (ddO w ks) (ks++vs)),o5,o6,o7,o8,o9] /\
  (d2 = .own (z.map fun c => .str (tx [c]))\/d2 = .im (.list (z.map fun c => .str (tx [c]))))/\(d3 = .own (ts.map encT)\/d3 = .im (.list (ts.map encT)))/\ks.length=vs.length/\Head es fs z n ts ks/\m=(2402 - ks.length) * 2+(if ts = [] then 0 else 1),
  ⟨_,0,[([],l0,r0)],[],[],_,_,none,none,none,none,none,rfl,.inl rfl,.inl rfl,rfl,.start (.start I.r1 hl0) (.start I.r2 hr0),rfl⟩,?_⟩
 rintro m ρ ⟨n,ts,ks,vs,d2,d3,o5,o6,o7,o8,o9,rfl,h2,h3,hv,hd,rfl⟩
 have k1:=kf hd.nd hd.key
 have tru:truB (.list (ts.map encT))=some (!decide (ts = [])):=by
  cases ts <;> rfl
 have key:∀ d3:DV,(d3 = .own (ts.map encT)\/d3 = .im (.list (ts.map encT)))->∀ Q:Bool->Prop,Q (!decide (ts = []))->truD (vD 3) [some (.im (encE es)),some (.im (encE fs)),some d2,some d3,some (.gen (ddO w ks) (ks++vs)),o5,o6,o7,o8,o9] Q:=fun d3 h Q q=>by
  rcases h with rfl | rfl
  ·exact ⟨_,_,rfl,rfl,_,tru,q⟩
  ·exact ⟨_,_,rfl,rfl,_,tru,q⟩
 refine key d3 h3 _ ?_
 by_cases te:ts = []
 ·rw [decide_eq_true te]
  subst te
  exact iteF (q0 hd.none)
 rw [decide_eq_false te]
 refine iteT ⟨Nat.zero_le _,rfl,?_⟩
 dsimp only
 refine zdb (fun ρ=>∃ (lg:List Tr) (kt vt:List PyData) (d2:DV) (o6 o7 o8 o9:Option DV),ρ = [some (.im (encE es)),some (.im (encE fs)),some d2,some (.im (.list (ts.map encT))),some (.gen (ddO w kt) (kt++vt)),some (.own (lg.map encT)),o6,o7,o8,o9] /\
  (d2 = .own (z.map fun c => .str (tx [c]))\/d2 = .im (.list (z.map fun c => .str (tx [c]))))/\kt.length=vt.length/\Mid es fs z n ts ks ts.length lg kt) (fun N hN=>?_) fun ρ zz=>?_
 ·refine znr h3 rfl ⟨_,rfl,?_⟩
  refine zau (fun j ρ=>∃ (lg:List Tr) (kt vt:List PyData) (d2:DV) (o6 o7 o8 o9:Option DV),ρ = [some (.im (encE es)),some (.im (encE fs)),some d2,some (.im (.list (ts.map encT))),some (.gen (ddO w kt) (kt++vt)),some (.own (lg.map encT)),o6,o7,o8,o9] /\
   (d2 = .own (z.map fun c => .str (tx [c]))\/d2 = .im (.list (z.map fun c => .str (tx [c]))))/\kt.length=vt.length/\Mid es fs z n ts ks j lg kt) ⟨[],ks,vs,d2,o6,o7,o8,o9,rfl,h2,hv,hd.mid⟩ (fun ρ zz=>by
    obtain ⟨lg,kt,vt,d2,o6,o7,o8,o9,e,g2,g3,g4⟩:=zz
    rw [List.length_map] at g4
    exact hN ρ ⟨lg,kt,vt,d2,o6,o7,o8,o9,e,g2,g3,g4⟩) fun j d ρ N hj hN zz=>?_
  obtain ⟨lg,kt,vt,d2,o6,o7,o8,o9,e,g2,g3,g4⟩:=zz
  subst e
  rw [List.getElem?_map] at hj
  obtain ⟨t,ht,rfl⟩:=Option.map_eq_some_iff.mp hj
  have o:=hd.ok t (List.mem_of_getElem? ht)
  have k2:=kf g4.nd g4.key
  have dk:=z0n o.l.rp o.r.rp (Nat.le_trans (lE o.l) (by decide)) (Nat.le_trans (lF o.r) (by decide))
  have tn:t.1.length<=2401:=by have:=hd.lvl te;have:=o.n;lia
  have s2:2<=sizeLine:=by lia
  refine ⟨zf2 t,_,rfl,?_⟩
  refine ⟨_,_,rfl,rfl,_,_,rfl,rfl,_,eqE o.l.rp o.r.rp (lE o.l) (lF o.r),_,rfl,?_⟩
  by_cases le:t.2.1=t.2.2
  ·rw [decide_eq_true le]
   exact iteT (iteT (hN _ ⟨lg,kt,vt,d2,_,_,_,_,rfl,g2,g3,g4.same ht le⟩))
  rw [decide_eq_false le]
  refine iteF ⟨kt,vt,⟨g3,.inl rfl⟩,_,_,rfl,rfl,_,_,rfl,rfl,s2,dk,fun b hb=>?_⟩
  cases b with
  | true=>exact iteT (hN _ ⟨lg,kt,vt,d2,_,_,_,_,rfl,g2,g3,g4.seen ht (hb.mp rfl)⟩)
  | false =>
    have nk:zb7 t.2.1 t.2.2 ∉ kt:=fun q=>by have:=hb.mpr q;cases this
    have out:zbi (zay es fs) t.1->Qr (.o (.str (tx t.1))):=fun h=>q1 _ h (fun c hc=>lowz c (o.z c hc)) (by lia)
    refine iteF ?_
    refine ⟨_,_,rfl,rfl,by show 0<=sizeLine;lia,_,eqE (r := []) o.l.rp (by intro _ q;cases q) (lE o.l) (by decide),_,rfl,?_⟩
    by_cases n1:t.2.1 = []
    ·rw [decide_eq_true n1]
     exact iteT (iteT ⟨_,_,rfl,rfl,out (g4.found ht le (.inl n1))⟩)
    rw [decide_eq_false n1]
    refine iteF ⟨_,_,rfl,rfl,by show 0<=sizeLine;lia,_,eqE (r := []) o.r.rp (by intro _ q;cases q) (lF o.r) (by decide),_,rfl,?_⟩
    by_cases n2:t.2.2 = []
    ·rw [decide_eq_true n2]
     exact iteT ⟨_,_,rfl,rfl,out (g4.found ht le (.inr n2))⟩
    rw [decide_eq_false n2]
    refine iteF ⟨kt,vt,g3,rfl,_,_,rfl,rfl,_,_,rfl,rfl,s2,rfl,dk,nk,by lia,?_⟩
    refine znr g2 rfl ⟨_,rfl,?_⟩
    have lgl:=g4.len
    have lgl2:lg.length<=144060:=Nat.le_trans lgl (Nat.le_trans (Nat.mul_le_mul lz k2) (by decide))
    refine zau (fun i ρ=>∃ (nw:List Tr) (o9:Option DV),ρ = [some (.im (encE es)),some (.im (encE fs)),some (.im (.list (z.map fun c => .str (tx [c])))),some (.im (.list (ts.map encT))),some (.gen (ddO w (kt ++ [zb7 t.2.1 t.2.2])) ((kt ++ [zb7 t.2.1 t.2.2])++(vt ++ [.bool true]))),some (.own ((lg++nw).map encT)),some (.im (.str (tx t.1))),some (.im (encE t.2.1)),some (.im (encE t.2.2)),o9]/\nw.map (·.1)=(z.take i).map (fun c=>t.1 ++ [c])/\∀ t' ∈ nw,RowOk es fs z (n+1) t') ⟨[],o9,by rw [List.append_nil];rfl,rfl,(by intro _ q;cases q)⟩ (fun ρ zz=>?_) fun i d ρ N hi hN zz=>?_
    ·obtain ⟨nw,o9,e,en,ok⟩:=zz
     subst e
     rw [List.length_map,List.take_of_length_le (Nat.le_refl _)] at en
     exact hN _ ⟨lg++nw,_,_,_,_,_,_,o9,rfl,.inr rfl,by rw [List.length_append,List.length_append,g3];rfl,g4.more ht n1 n2 nk z3 hz en ok⟩
    ·obtain ⟨nw,o9,e,en,ok⟩:=zz
     subst e
     rw [List.getElem?_map] at hi
     obtain ⟨c,hc,rfl⟩:=Option.map_eq_some_iff.mp hi
     have cz:=List.mem_of_getElem? hc
     have nl:nw.length<=60:=by
      have:=congrArg List.length en
      rw [List.length_map,List.length_map,List.length_take] at this
      exact this ▸ Nat.le_trans (Nat.min_le_right _ _) lz
     refine ⟨rfl,_,rfl,_,_,rfl,rfl,_,_,rfl,rfl,_,zru (by rw [List.length_singleton];lia),?_⟩
     refine ⟨_,_,rfl,rfl,_,_,rfl,rfl,rfl,t.2.1,c,rfl,fun p hp=>(o.l.rp p hp).wf,Nat.lt_of_le_of_lt (lE o.l) (by decide),lowz c cz,fun l' hl'=>?_⟩
     refine ⟨_,_,rfl,rfl,_,_,rfl,rfl,rfl,t.2.2,c,rfl,fun p hp=>(o.r.rp p hp).wf,Nat.lt_of_le_of_lt (lF o.r) (by decide),lowz c cz,fun r' hr'=>?_⟩
     refine ⟨by show 3<=sizeLine;lia,zf2 (t.1 ++ [c],l',r'),by rw [List.length_map,List.length_append];lia,hN _ ⟨nw ++ [(t.1 ++ [c],l',r')],some (.im (.str (tx [c]))),?_,?_,?_⟩⟩
     ·have e3:(lg++(nw ++ [(t.1 ++ [c],l',r')])).map encT=(lg++nw).map encT ++ [encT (t.1 ++ [c],l',r')]:=by rw [<- List.append_assoc,List.map_append (l₁:=lg++nw)];rfl
      rw [e3]
      rfl
     ·rw [List.map_append,en,zdo hc,List.map_append]
      rfl
     ·intro t' ht'
      rcases List.mem_append.mp ht' with q | q
      ·exact ok t' q
      ·rw [List.mem_singleton.mp q]
       refine ⟨o.l.step hl',o.r.step hr',by show (t.1 ++ [c]).length=n+1;rw [List.length_append,o.n];rfl,fun d hd=>?_⟩
       rcases List.mem_append.mp hd with q | q
       ·exact o.z d q
       ·rw [List.mem_singleton.mp q]
        exact cz
 ·obtain ⟨lg,kt,vt,d2,o6,o7,o8,o9,e,g2,g3,g4⟩:=zz
  subst e
  have k2:=kf g4.nd g4.key
  refine .inr ⟨_,rfl,_,rfl,?_⟩
  refine ⟨_,?_,n+1,lg,kt,vt,d2,.im (.list (lg.map encT)),some (.im (.list (lg.map encT))),o6,o7,o8,o9,rfl,g2,.inr rfl,g3,g4.head,rfl⟩
  rw [if_neg te]
  by_cases le:lg = []
  ·rw [if_pos le]
   exact me1 g4.le
  ·rw [if_neg le]
   exact me2 (g4.gr le) k2
end
section
variable {P : Program} {w : World} {K : PySem.W.Frag} {mg : Str → Option Value} {base : Heap} {k : Nat}
noncomputable abbrev zjq:Stmt:=top 18
theorem zu9:FnScope ["_law_pot_here", "_law_letters_here", "_law_some"] ["_law_pot_here", "_law_letters_here"] (zag zjq):=⟨rfl,rfl,rfl,by decide +kernel,rfl,by decide +kernel,by decide +kernel⟩
theorem zbs (B:Blt mg) (d_law_draw:zjd P w K mg base) (T:Top3 K mg "_law_piece" zjq):Def3 P w K mg base 2 "_law_piece" ["_law_pot_here", "_law_letters_here"] (spD K IsPot 1 zi4):=by
 refine mk_D T zu9 (fun _ _ _ _ _ _ us hl=>len2 hl fun _ _=>rfl) rfl fun f cdv A outer s H E O hφ C=>?_
 have hO:∀ j:Unit,IsPot ((fun _:Unit=>O) j):=fun _=>hφ
 refine ⟨_,(zae (s_if (t_eq C (zat 0 C d_law_draw hO (zab zaj zac)) zaj) (zah (zao (za8 (zab zb3 (zab (za2 C (zaa 1) (zat 0 C d_law_draw hO (zab (zbk C B (zab (zaa 1) zac)) zac))) zac))))) za1) (zae (zan 2 (znc C zb3 (zcx 1 ["_law_letter", "_law_pot_here", "_law_letters_here", "_law_some"] C (fun _ => .of rfl (by kernel_rfl)) (zle (zaa 1)) (za3 0) (zw3 (t_eq (C.comp _ _) (zat 1 (C.comp _ _) d_law_draw (upO hO) (zab zaj zac)) zaj)) (zaa 0)))) (zae (s_if (t_eq C (zaa 2) zb3) (zah (zan 2 (za2 C (zaa 1) (zat 0 C d_law_draw hO (zab (zbk C B (zab (zaa 1) zac)) zac))))) za1) (zah (zao (za8 (zab zb3 (zab (zaa 2) zac)))))))),fun ds Qr hn q=>?_⟩
 obtain ⟨ls,rfl,hw,hne,hl,q⟩:=q
 have sz:=sizeLine_eq
 have one:∀ c ∈ ls,∀ a,WfP (a,[c]):=fun c hc a=>⟨fun x hx=>by rw [List.mem_singleton.mp hx];exact hw c hc,(by decide:1<=100),fun _=>rfl,by simp⟩
 refine zdj rfl (by decide) (by decide) fun k hk=>?_
 refine ⟨_,zca,_,rfl,?_⟩
 refine ite2 (fun _=>?_) (fun _=>?_)
 ·refine zk3 rfl rfl hne (by lia) fun c hc=>?_
  exact ⟨by show 2<=sizeLine;lia,q (false,[c]) (one c hc _) (List.singleton_sublist.mpr hc)⟩
 ·refine ⟨_,rfl,_,_,rfl,rfl,_,rfl,?_⟩
  have e1:sgs (tx ls)=ls.map fun c => .str (tx [c]):=by unfold sgs;rw [zbe];rfl
  rw [e1]
  refine zus (enc:=fun c => .str (tx [c])) (fun c hc Pn Py hPn hPy=>?_) (by lia) fun ws hsub=>?_
  ·refine zdj rfl (by decide) (by decide) fun k hk=>?_
   refine ⟨_,zca,_,rfl,?_⟩
   exact ite2 (fun _=>⟨_,_,rfl,rfl,hPy⟩) (fun _=>hPn)
  ·have hlw:=hsub.length_le
   have hs:∀ c ∈ ws,c ∈ ls:=fun c hc=>hsub.subset hc
   obtain ⟨ys,e1,e2,e3⟩:=zzd ws (by lia)
   refine ⟨ys,e1,e2,?_⟩
   rw [e3]
   refine ⟨rfl,?_⟩
   have hlow:LowW ws:=zx6 hw hs
   refine ⟨_,_,rfl,rfl,_,zcu (zfr hlow) (by decide +kernel),_,rfl,?_⟩
   refine ite2 (fun _=>?_) (fun z=>?_)
   ·refine zk3 rfl rfl hne (by lia) fun c hc=>?_
    exact ⟨rfl,_,_,rfl,rfl,by show 2<=sizeLine;lia,q (true,[c]) (one c hc _) (List.singleton_sublist.mpr hc)⟩
   ·refine ⟨_,_,rfl,rfl,by show 2<=sizeLine;lia,q (true,ws) ⟨hlow,by show ws.length<=100;lia,(fun e=>nomatch e),fun e=>?_⟩ hsub⟩
    have e:ws = []:=e
    rw [e] at z
    exact z (by decide +kernel)
end
section
variable {P : Program} {w : World} {K : PySem.W.Frag} {mg : Str → Option Value} {base : Heap} {k : Nat}
noncomputable abbrev zge:Stmt:=top 19
theorem zqg:FnScope ["_law_pot_here", "_law_letters_here", "_law_most"] ["_law_pot_here", "_law_letters_here", "_law_most"] (zag zge):=⟨rfl,rfl,rfl,by decide +kernel,rfl,by decide +kernel,by decide +kernel⟩
theorem zds (B:Blt mg) (d_law_draw:zjd P w K mg base) (zbs:Def3 P w K mg base 2 "_law_piece" ["_law_pot_here", "_law_letters_here"] (spD K IsPot 1 zi4)) (T:Top3 K mg "_law_product" zge):Def3 P w K mg base 3 "_law_product" ["_law_pot_here", "_law_letters_here", "_law_most"] (spD K IsPot 2 zmf):=by
 refine mk_D T zqg (fun _ _ _ _ _ _ us hl=>len3 hl fun _ _ _=>rfl) rfl fun f cdv A outer s H E O hφ C=>?_
 have hO:∀ j:Unit,IsPot ((fun _:Unit=>O) j):=fun _=>hφ
 refine ⟨_,(zah (zao (zde C B (zab (zcx 1 ["_law_k", "_law_pot_here", "_law_letters_here", "_law_most"] C (fun _ => .of rfl (by kernel_rfl)) (i_r1 C B (zab (zat 0 C d_law_draw hO (zab (zaw C (zaa 2) zaj) zac)) zac)) (za3 0) zfa (zat 1 (C.comp _ _) zbs (upO hO) (zab (zaa 2) zac))) zac)))),fun ds Qr hn q=>?_⟩
 obtain ⟨ls,n,rfl,hw,hne,hl,ln,q⟩:=q
 refine ⟨rfl,_,_,rfl,rfl,_,rfl,rfl,_,rfl,by lia,by lia,fun k k0 k1=>?_⟩
 refine ⟨k,rfl,by lia,by lia,?_⟩
 refine zv6 (enc2:=encP) (good:=GPc ls) (fun c hc Pn Py hPn hPy=>?_) (by rw [List.length_range];lia) fun ps hs hlp=>?_
 ·exact iteT (B:=Pn) ⟨rfl,_,_,rfl,rfl,rfl,ls,rfl,hw,hne,hl,fun p hp hps=>hPy p ⟨hp,hps⟩⟩
 ·rw [List.length_range] at hlp
  exact ⟨_,rfl,q ps hs (by lia)⟩
end
theorem tl3 {a b n:Nat} (h:n<=50):min a n+1+(n - (a+b))<=16777216:=by lia
section
variable {P : Program} {w : World} {K : PySem.W.Frag} {mg : Str → Option Value} {base : Heap} {k : Nat}
noncomputable abbrev zef:Stmt:=top 20
theorem zlb:FnScope ["_law_pot_here", "_law_letters_here", "_law_most", "_law_pieces", "_law_found", "_law_k", "_law_one", "_law_at"] ["_law_pot_here", "_law_letters_here", "_law_most", "_law_pieces"] (zag zef):=⟨rfl,rfl,rfl,by decide +kernel,rfl,by decide +kernel,by decide +kernel⟩
theorem zbh (B:Blt mg) (d_law_draw:zjd P w K mg base) (zbs:Def3 P w K mg base 2 "_law_piece" ["_law_pot_here", "_law_letters_here"] (spD K IsPot 1 zi4)) (zds:Def3 P w K mg base 3 "_law_product" ["_law_pot_here", "_law_letters_here", "_law_most"] (spD K IsPot 2 zmf)) (T:Top3 K mg "_law_expression" zef):Def3 P w K mg base 4 "_law_expression" ["_law_pot_here", "_law_letters_here", "_law_most", "_law_pieces"] (spD K IsPot 3 zqd):=by
 refine mk_D T zlb (fun _ _ _ _ _ _ us hl=>len4 hl fun _ _ _ _=>rfl) rfl fun f cdv A outer s H E O hφ C=>?_
 have hO:∀ j:Unit,IsPot ((fun _:Unit=>O) j):=fun _=>hφ
 refine ⟨_,(zae (zan 4 (zcb zac)) (zae (zbt C (zcj (i_r1 C B (zab (zat 0 C d_law_draw hO (zab (zaw C (zaa 2) zaj) zac)) zac))) (za3 (h:=1000) 5) (zae (zan 6 (zat 0 C zds hO (zab (zaa 1) (zab (zaa 3) zac)))) (zae (s_if (t_w (zih (t_gt (zbk C B (zab (zaa 4) zac)) zaj) (zf8 (t_eq C (zat 0 C d_law_draw hO (zab zaj zac)) zaj)))) (zae (zan 6 (za2 C (zaa 4) zq6)) (zae (zan 7 (zat 0 C d_law_draw hO (zab (zaw C (zbk C B (zab (zaa 6) zac)) zaj) zac))) (zah (zan 6 (zbd C (zaw C (zaw C (zbd C (zaa 6) zbp (zbo (zaa 7))) (za8 (zab (zat 0 C zbs hO (zab (zaa 1) zac)) zac))) (zbd C (zaa 6) (zbo (zaw C (zaa 7) (zat 0 C d_law_draw hO (zab zaj zac)))) zbp)) zbp (zbo (zaa 3))))))) za1) (zah (zem 4 C (zaa 6)))))) (zah (zao (zde C B (zab (zaa 4) zac)))))),fun ds Qr hn q=>?_⟩
 obtain ⟨ls,m,n,rfl,hw,hne,hl,lm,ln,q⟩:=q
 have sz:=sizeLine_eq
 refine ⟨Nat.zero_le _,rfl,?_⟩
 refine ⟨rfl,_,_,rfl,rfl,_,rfl,rfl,_,rfl,by lia,by lia,fun k k0 k1=>?_⟩
 have km:k.toNat<=m:=by lia
 refine ⟨k,rfl,by lia,by lia,rfl,?_⟩
 refine zau (fun j ρ=>∃ (es:List (List Pc)) (o5 o6 o7:Option DV),ρ = [some .ob,some (.im (.str (tx ls))),some (.im (.int m)),some (.im (.int n)),some (.own (es.map zaf)),o5,o6,o7]/\(∀ pr ∈ es,(∀ p ∈ pr,GPc ls p)/\pr.length<=n)/\es.length<=j/\j<=k.toNat) ⟨[],none,none,none,rfl,(fun c hc=>nomatch hc),Nat.zero_le _,Nat.zero_le _⟩ (fun ρ zz=>?_) fun j d ρ N hd hN zz=>?_
 ·obtain ⟨es,o5,o6,o7,e,h1,h2,h3⟩:=zz
  subst e
  rw [zek] at h2
  exact ⟨_,_,rfl,rfl,_,rfl,q es h1 (Nat.le_trans h2 km)⟩
 ·obtain ⟨es,o5,o6,o7,e,h1,h2,h3⟩:=zz
  subst e
  obtain ⟨hj,rfl⟩:=zdn hd
  refine ⟨rfl,?_⟩
  refine ⟨rfl,_,_,rfl,rfl,_,_,rfl,rfl,rfl,ls,n,rfl,hw,hne,hl,ln,fun ps p1 p2=>⟨zar ps,?_⟩⟩
  dsimp only
  refine zdb (fun ρ=>∃ (ps:List Pc) (o5 o7:Option DV),ρ = [some .ob,some (.im (.str (tx ls))),some (.im (.int m)),some (.im (.int n)),some (.own (es.map zaf)),o5,some (.im (zaf ps)),o7]/\(∀ p ∈ ps,GPc ls p)/\ps.length<=n) (fun N hN=>?_) fun ρ zz=>?_
  ·refine ⟨_,_,rfl,rfl,_,rfl,_,rfl,_,rfl,?_⟩
   refine ite2 (fun z=>?_) (fun _=>iteF (hN _ ⟨ps,_,_,rfl,p1,p2⟩))
   refine zdj rfl (by decide) (by decide) fun k2 hk2=>?_
   refine ⟨_,zca,_,rfl,?_⟩
   refine ite2 (fun _=>?_) (fun _=>hN _ ⟨ps,_,_,rfl,p1,p2⟩)
   have hes:es ≠ []:=fun e=>by
    rw [e] at z
    exact absurd z (by decide)
   obtain ⟨es',la,rfl⟩:∃ es' la,es=es' ++ [la]:=⟨es.dropLast,es.getLast hes,(List.dropLast_concat_getLast hes).symm⟩
   obtain ⟨l1,l2⟩:=h1 la (by simp)
   have hix:idxF (.list ((es' ++ [la]).map zaf)) (.int (-1))=some (.o (zaf la)):=by
    show (atI ((es' ++ [la]).map zaf) (-1)).map R.o=_
    rw [List.map_append]
    show (atI (es'.map zaf ++ [zaf la]) (-1)).map R.o=_
    rw [zn5]
    rfl
   refine ⟨_,_,rfl,rfl,_,hix,zar la,?_⟩
   refine zko rfl rfl rfl (zgj la) (by lia) fun a ha=>⟨rfl,?_⟩
   refine ⟨_,_,rfl,rfl,_,_,rfl,rfl,_,rfl,_,zdg la _ _,?_⟩
   rw [zc2]
   refine ⟨rfl,_,_,rfl,rfl,rfl,ls,rfl,hw,hne,hl,fun p hp hps=>⟨by show 1<=sizeLine;lia,_,zex (b := [p]) (by rw [List.length_take];simp;lia),?_⟩⟩
   refine ⟨_,_,rfl,rfl,_,_,rfl,rfl,zdj rfl (by decide) (by decide) fun k3 hk3=>⟨_,rfl,_,rfl,_,zdg la _ _,?_⟩⟩
   rw [show ((a:Int)+(k3:Nat))=((a+k3:Nat):Int) by lia,zc9]
   refine ⟨_,zex (by rw [List.length_append,List.length_take,List.length_drop,List.length_singleton];exact tl3 (Nat.le_trans l2 ln)),_,_,rfl,rfl,_,rfl,_,zdg _ _ _,zar _,hN _ ⟨_,_,_,rfl,?_,?_⟩⟩
   ·rw [zc2]
    intro x hx
    rcases List.mem_append.mp (List.mem_of_mem_take hx) with hx | hx
    ·rcases List.mem_append.mp hx with hx | hx
     ·exact l1 x (List.mem_of_mem_take hx)
     ·rw [List.mem_singleton.mp hx];exact ⟨hp,hps⟩
    ·exact l1 x (List.mem_of_mem_drop hx)
   ·rw [zc2,List.length_take]
    exact Nat.min_le_left _ _
  ·obtain ⟨ps,o5,o7,e,p1,p2⟩:=zz
   subst e
   refine ⟨_,rfl,_,_,rfl,rfl,zar ps,by rw [List.length_map];exact Nat.lt_of_le_of_lt (Nat.le_trans h2 (Nat.le_trans h3 (Nat.le_trans km lm))) (by rw [sz];decide),hN _ ⟨es ++ [ps],_,_,_,by rw [List.map_append];rfl,?_,?_,?_⟩⟩
   ·intro pr hpr
    rcases List.mem_append.mp hpr with hpr | hpr
    ·exact h1 pr hpr
    ·rw [List.mem_singleton.mp hpr];exact ⟨p1,p2⟩
   ·rw [List.length_append];exact Nat.succ_le_succ h2
   ·exact hj
end
theorem nt1 {n p:Nat}:((p:Int)+1 - (n:Int)).toNat=p+1 - ((n:Int)).toNat:=by lia
theorem lh1 {n:Int} {p:Nat} (h0:0<=n) (h1:n.toNat<=p) (h2:p<=100):-(2 ^ 20)<=n/\n<=2 ^ 20/\-(2 ^ 20)<=(p:Int)+1/\(p:Int)+1<=2 ^ 20:=by lia
theorem lh2 {a b c:Nat} (h:a+b<c):b<c - a:=Nat.lt_sub_of_add_lt (by rw [Nat.add_comm];exact h)
section
variable {P : Program} {w : World} {K : PySem.W.Frag} {mg : Str → Option Value} {base : Heap} {k : Nat}
noncomputable abbrev zq8:Stmt:=top 21
theorem z1w:FnScope ["_law_product_here", "_law_word", "_law_spots_here", "_law_letter", "_law_later", "_law_k"] ["_law_product_here", "_law_word"] (zag zq8):=⟨rfl,rfl,rfl,by decide +kernel,rfl,by decide +kernel,by decide +kernel⟩
theorem zdl (B:Blt mg) (T:Top3 K mg "_law_has" zq8):Def3 P w K mg base 1 "_law_has" ["_law_product_here", "_law_word"] (spO K (fun _=>True) 2 phF):=by
 refine mk_O T z1w (fun _ _ _ _ _ _ us hl=>len2 hl fun _ _=>rfl) rfl fun f cdv A outer s H E O hφ C=>⟨_,(zae (zan 2 (z3m C B (zab (zaw C (zbk C B (zab (zaa 0) zac)) zaj) zac))) (zae (zbt C (zcj (zle (zaa 1))) (za3 (h:=1000) 3) (zae (zan 4 (zcb zac)) (zae (zvu 2 C (za3 (h:=1000) 5) (zah (s_if (t_w (zih (t_lt (zaa 5) (zbk C B (zab (zaa 0) zac))) (zf8 (t_in C (zaa 3) (za2 C (za2 C (zaa 0) (zaa 5)) zaj))))) (zah (zem 4 C (zaw C (zaa 5) (znj C B (zab (e_eq C (za2 C (za2 C (zaa 0) (zaa 5)) zaj) zb3) zac))))) za1))) (zae (s_if (t_eq C (zbk C B (zab (zaa 4) zac)) zaj) (zah (zao e_bl)) za1) (zah (zan 2 (z4f C B (zab (zws C B (zab (zaa 4) zac)) (zab (zaw C (zbk C B (zab (zaa 0) zac)) zaj) zac))))))))) (zah (zao e_bl)))),fun ds Qr hn q=>?_⟩
 obtain ⟨pr,w,rfl,hpr,hw,lw,q⟩:=q
 have hl:=hpr.len
 have sz:=sizeLine_eq
 have el:(pr.map encP).length=pr.length:=List.length_map _
 refine ⟨_,_,rfl,rfl,_,rfl,_,rfl,_,rfl,by lia,by lia,zii _ _,?_⟩
 have en:(((pr.map encP).length:Int)+1).toNat=pr.length+1 - 0:=by rw [el];lia
 rw [en]
 refine ⟨_,_,rfl,rfl,_,rfl,rfl,?_⟩
 refine zau (fun j ρ=>∃ (lo:Nat) (o3 o4 o5:Option DV),ρ = [some (.im (zaf pr)),some (.im (.str (tx w))),some (.own (zbl lo (pr.length+1 - lo))),o3,o4,o5]/\lo<=pr.length/\Qr (.o (.bool (pwi pr (mbs (w.drop j)) lo)))) ⟨0,none,none,none,rfl,Nat.zero_le _,q⟩ (fun ρ zz=>?_) fun j d ρ N hd hN zz=>?_
 ·obtain ⟨lo,o3,o4,o5,e,hj,q⟩:=zz
  rw [zzt,List.drop_eq_nil_of_le (Nat.le_refl _)] at q
  exact q
 ·obtain ⟨lo,o3,o4,o5,e,hlo,q⟩:=zz
  subst e
  obtain ⟨c,hc,rfl⟩:=zxq hd
  obtain ⟨hlt,e⟩:=List.getElem?_eq_some_iff.mp hc
  rw [List.drop_eq_getElem_cons hlt,e,mbs,List.map_cons,pwi] at q
  refine ⟨rfl,Nat.zero_le _,rfl,_,rfl,?_⟩
  refine zau (fun i ρ=>∃ (o5:Option DV),ρ = [some (.im (zaf pr)),some (.im (.str (tx w))),some (.im (.list (zbl lo (pr.length+1 - lo)))),some (.im (.str (sg c))),some (.own ((zax c ((pr.drop lo).take i) lo).map .int)),o5]) ⟨o5,rfl⟩ (fun ρ zz=>?_) fun i d ρ N2 hd hN2 zz=>?_
  ·obtain ⟨o5,e⟩:=zz
   subst e
   rw [zek,List.take_of_length_le (by rw [List.length_drop];exact Nat.sub_le_sub_right (Nat.le_succ _) _)]
   refine ⟨_,_,rfl,rfl,_,rfl,_,zca,_,rfl,?_⟩
   rw [if_neg Bool.false_ne_true]
   refine ite2 (fun z=>?_) (fun z=>?_)
   ·have z2:=of_decide_eq_true z
    have z3:zax c (pr.drop lo) lo = []:=by
     rw [List.length_map] at z2
     exact List.eq_nil_of_length_eq_zero (by lia)
    rw [zux hpr z3] at q
    exact q
   ·have z3:zax c (pr.drop lo) lo ≠ []:=fun e=>z (by rw [e];rfl)
    refine ⟨_,_,rfl,rfl,_,rfl,z3,fun n h1 h2=>?_⟩
    obtain ⟨h3,h4⟩:=zzj hpr h1 h2
    rw [h3] at q
    have h5:=zja hlo h3
    refine ⟨_,_,rfl,rfl,_,rfl,_,rfl,n,_,rfl,by rw [el];exact lh1 h4 h5 hl,zii _ _,?_⟩
    have e1:n=(n.toNat:Int):=(Int.toNat_of_nonneg h4).symm
    have e2:(((pr.map encP).length:Int)+1 - n).toNat=pr.length+1 - n.toNat:=by rw [el,e1];exact nt1
    have e3:zbl n (((pr.map encP).length:Int)+1 - n).toNat=zbl (n.toNat:Int) (pr.length+1 - n.toNat):=by rw [e2];exact congrArg (fun z=>zbl z _) e1
    rw [e3]
    exact hN _ ⟨n.toNat,_,_,_,rfl,h5,q⟩
  ·obtain ⟨o5,e⟩:=zz
   subst e
   obtain ⟨hi,rfl⟩:=zdn hd
   have ej:((lo:Int)+(i:Nat))=((lo+i:Nat):Int):=by lia
   rw [ej]
   refine ⟨rfl,?_⟩
   refine ⟨_,_,rfl,rfl,_,_,rfl,rfl,_,rfl,_,rfl,_,rfl,?_⟩
   have hdl:(pr.drop lo).length=pr.length - lo:=List.length_drop
   refine ite2 (fun z=>?_) (fun z=>?_)
   ·have hk:lo+i<pr.length:=by have:=of_decide_eq_true z;lia
    have hi2:=zmi hk
    have hg:(pr.drop lo)[i]'(by rw [hdl];exact lh2 hk)=pr[lo+i]:=List.getElem_drop
    have tk:=zfj (c:=c) (l:=pr.drop lo) (i:=lo) (k:=i) (by rw [hdl];exact lh2 hk)
    rw [hg] at tk
    refine ⟨_,_,rfl,rfl,_,_,rfl,rfl,_,_,rfl,rfl,_,hi2,_,rfl,_,ziu,_,rfl,?_⟩
    rw [if_neg Bool.false_ne_true]
    refine ite2 (fun z2=>?_) (fun z2=>?_)
    ·have z3:=of_decide_eq_true z2
     rw [if_pos z3] at tk
     refine ⟨_,rfl,_,_,rfl,rfl,_,_,rfl,rfl,_,_,rfl,rfl,_,hi2,_,rfl,_,zcu (zbn _) (by decide +kernel),_,rfl,_,rfl,rfl,?_,?_⟩
     ·rw [List.length_map]
      have:=zga (c:=c) (l:=(pr.drop lo).take i) (i:=lo)
      rw [List.length_take] at this
      exact Nat.lt_of_le_of_lt (Nat.le_trans this (Nat.le_trans (Nat.min_le_right _ _) (Nat.le_trans (by rw [hdl];exact Nat.sub_le _ _) hl))) (by rw [sz];decide)
     ·refine hN2 _ ⟨some (.im (.int ((lo+i:Nat):Int))),?_⟩
      rw [tk,List.map_append]
      rw [zff]
      cases pr[lo+i].1 <;> rfl
    ·rw [if_neg (by simpa using z2)] at tk
     refine hN2 _ ⟨some (.im (.int ((lo+i:Nat):Int))),?_⟩
     rw [tk,List.append_nil]
     rfl
   ·have hk:pr.length<=lo+i:=by
     have:¬ ((lo+i:Nat):Int)<((pr.map encP).length:Int):=fun y=>z (decide_eq_true y)
     lia
    refine hN2 _ ⟨some (.im (.int ((lo+i:Nat):Int))),?_⟩
    have dl:(pr.drop lo).length<=i:=by rw [hdl];exact Nat.sub_le_of_le_add (by rw [Nat.add_comm];exact hk)
    rw [List.take_of_length_le (Nat.le_succ_of_le dl),List.take_of_length_le dl]
    rfl
end
noncomputable def zo3:List PyData->(R->Prop)->Prop:=fun ds Q=>∃ (es:List (List Pc)) (w:List Nat),ds = [encE es,.str (tx w)]/\(∀ pr ∈ es,WfPr pr)/\es.length<=1000/\LowW w/\w.length<=16000000/\Q (.o (.bool (es.any fun pr=>hasB pr w)))
section
variable {P : Program} {w : World} {K : PySem.W.Frag} {mg : Str → Option Value} {base : Heap} {k : Nat}
noncomputable abbrev zht:Stmt:=top 22
theorem zrt:FnScope ["_law_expression_here", "_law_word"] ["_law_expression_here", "_law_word"] (zag zht):=⟨rfl,rfl,rfl,by decide +kernel,rfl,by decide +kernel,by decide +kernel⟩
theorem zck (B:Blt mg) (zdl:Def3 P w K mg base 1 "_law_has" ["_law_product_here", "_law_word"] (spO K (fun _=>True) 2 phF)) (T:Top3 K mg "_law_one_has" zht):Def3 P w K mg base 2 "_law_one_has" ["_law_expression_here", "_law_word"] (spO K (fun _=>True) 2 zo3):=by
 refine mk_O T zrt (fun _ _ _ _ _ _ us hl=>len2 hl fun _ _=>rfl) rfl fun f cdv A outer s H E O hφ C=>⟨_,(zah (zao (e_in C e_bl (zcx 1 ["_law_product_here", "_law_expression_here", "_law_word"] C (fun _ => .of rfl (by kernel_rfl)) (zcw C (zaa 0)) (za3 0) zfa (zap (C.comp _ _) zdl (fun _=>trivial) (zab (zaa 0) (zab (zaa 2) zac))))))),fun ds Qr hn q=>?_⟩
 obtain ⟨es,w,rfl,he,hl,hw,lw,q⟩:=q
 have sz:=sizeLine_eq
 refine ⟨_,_,rfl,rfl,_,rfl,?_⟩
 refine zgy (α:=List Pc) (enc:=zaf) (e:=fun e => .bool (hasB e w)) (fun e hm P hP=>⟨_,_,rfl,rfl,_,_,rfl,rfl,rfl,e,w,rfl,he e hm,hw,lw,hP _ rfl⟩) (by lia) ?_
 have e1:=zv7 (bs:=es.map fun e=>hasB e w)
 rw [List.map_map,List.any_map] at e1
 exact ⟨_,e1,q⟩
end
section
variable {P : Program} {w : World} {K : PySem.W.Frag} {mg : Str → Option Value} {base : Heap} {k : Nat}
noncomputable abbrev zm2:Stmt:=top 23
theorem zxu:FnScope ["_law_product_here", "_law_many"] ["_law_product_here", "_law_many"] (zag zm2):=⟨rfl,rfl,rfl,by decide +kernel,rfl,by decide +kernel,by decide +kernel⟩
theorem ze8 (B:Blt mg) (T:Top3 K mg "_law_full" zm2):Def3 P w K mg base 1 "_law_full" ["_law_product_here", "_law_many"] (spO K (fun _=>True) 2 zwz):=by
 refine mk_O T zxu (fun _ _ _ _ _ _ us hl=>len2 hl fun _ _=>rfl) rfl fun f cdv A outer s H E O hφ C=>⟨_,(zah (zao (znc C zb3 (zcx 2 ["_law_kind", "_law_letters_here", "_law_product_here", "_law_many"] C (fun _ => .of rfl (by kernel_rfl)) (zcw C (zaa 0)) (zit (C.comp _ _) (zby 0 (zby 1 zfv))) zfa (zn1 (C.comp _ _) (zaa 1) (za2 (C.comp _ _) (zcb (zab zaj (zab (zaa 3) zac))) (znj (C.comp _ _) B (zab (e_eq (C.comp _ _) (zaa 0) zb3) zac)))))))),fun ds Qr hn q=>?_⟩
 obtain ⟨pr,n,rfl,hpr,ln,q⟩:=q
 have sz:=sizeLine_eq
 have hl:=hpr.len
 refine ⟨_,rfl,_,_,rfl,rfl,_,rfl,?_⟩
 refine zvp (α:=Pc) (enc:=encP) (e:=fun p => .str (tx (if p.1 then (List.replicate n p.2).flatten else p.2))) (fun p hp P hP=>?_) zy6 (by lia) ?_
 ·have wl:=(hpr.all p hp).len
  refine ⟨_,rfl,iteT (B:=False) ?_⟩
  refine ⟨_,_,rfl,rfl,_,_,rfl,rfl,by show 2<=sizeLine;lia,_,_,rfl,rfl,_,zcu (zbn _) (by decide +kernel),_,rfl,?_⟩
  rw [if_neg Bool.false_ne_true,zhs]
  cases h1:p.1 with
  | false =>
    refine ⟨_,rfl,1,rfl,by decide,by decide,?_,hP _ ?_⟩
    ·show (tx p.2).length * 1<=sizeLine
     rw [zci];lia
    ·rw [h1]
     show PyData.str (tx ([(tx p.2).cps.toList]:List (List Nat)).flatten)=_
     rw [zbe]
     simp
  | true =>
    refine ⟨_,rfl,n,rfl,by lia,by lia,?_,hP _ ?_⟩
    ·show (tx p.2).length * (n:Int).toNat<=sizeLine
     rw [zci,Int.toNat_natCast]
     calc p.2.length * n<=100 * 200:=Nat.mul_le_mul wl ln
      _<=sizeLine:=by lia
    ·rw [h1]
     show PyData.str (tx (List.replicate (n:Int).toNat (tx p.2).cps.toList).flatten)=_
     rw [zbe,Int.toNat_natCast]
     rfl
 ·have hb:=zgg (n:=n) (pr:=pr) fun p hp=>(hpr.all p hp).len
  have hb2:(zbu pr n).length<=16777216:=Nat.le_trans hb (by
   calc pr.length * (100 * (n+1))<=100 * (100 * (200+1)):=Nat.mul_le_mul hl (by lia)
    _<=16777216:=by decide)
  obtain ⟨ys,e1,e2,e3⟩:=zpt (pr.map fun p:Pc=>if p.1=true then (List.replicate n p.2).flatten else p.2) (by exact hb2)
  rw [List.map_map] at e1
  refine ⟨ys,e1,e2,?_⟩
  rw [e3]
  exact q
end
section
variable {P : Program} {w : World} {K : PySem.W.Frag} {mg : Str → Option Value} {base : Heap} {k : Nat}
noncomputable abbrev zjr:Stmt:=top 24
theorem zuv:FnScope ["_law_one", "_law_other"] ["_law_one", "_law_other"] (zag zjr):=⟨rfl,rfl,rfl,by decide +kernel,rfl,by decide +kernel,by decide +kernel⟩
theorem zet (B:Blt mg) (zdl:Def3 P w K mg base 1 "_law_has" ["_law_product_here", "_law_word"] (spO K (fun _=>True) 2 phF)) (ze8:Def3 P w K mg base 1 "_law_full" ["_law_product_here", "_law_many"] (spO K (fun _=>True) 2 zwz)) (T:Top3 K mg "_law_under" zjr):Def3 P w K mg base 2 "_law_under" ["_law_one", "_law_other"] (spO K (fun _=>True) 2 zrk):=by
 refine mk_O T zuv (fun _ _ _ _ _ _ us hl=>len2 hl fun _ _=>rfl) rfl fun f cdv A outer s H E O hφ C=>⟨_,(zah (zao (zap C zdl (fun _=>trivial) (zab (zaa 1) (zab (zap C ze8 (fun _=>trivial) (zab (zaa 0) (zab (zaw C (zbk C B (zab (zaa 1) zac)) zaj) zac))) zac))))),fun ds Qr hn q=>?_⟩
 obtain ⟨one,other,rfl,h1,h2,q⟩:=q
 have l1:=h1.len
 have l2:=h2.len
 refine ⟨_,_,rfl,rfl,_,_,rfl,rfl,_,_,rfl,rfl,_,zgj other,_,rfl,rfl,one,other.length+1,rfl,h1,by lia,rfl,other,_,rfl,h2,zks fun p hp=>(h1.all p hp).low,?_,q⟩
 refine Nat.le_trans (zgg fun p hp=>(h1.all p hp).len) ?_
 calc one.length * (100 * (other.length+1+1))<=100 * (100 * 102):=Nat.mul_le_mul l1 (by lia)
  _<=16000000:=by decide
end
noncomputable def zl2:List PyData->(R->Prop)->Prop:=fun ds Q=>∃ es fs:List (List Pc),ds = [encE es,encE fs]/\(∀ e ∈ es,WfPr e)/\(∀ e ∈ fs,WfPr e)/\fs.length<=1000/\Q (.o (.bool (inE es fs)))
theorem zp9 {bs:List Bool}:inF true (.bool true) (.list (bs.map .bool))=some (.o (.bool (!bs.any id))):=by
 show (if (okD (.bool true) && PyData.canLayAll0 (bs.map .bool))=true then some (R.o (.bool (if true=true then !(bs.map PyData.bool).any (fun y=>PyData.eqv y (.bool true)) else (bs.map PyData.bool).any fun y=>PyData.eqv y (.bool true)))) else none)=_
 have e:okD (.bool true)=true:=by simp [okD,PyData.canLay0,PyData.depth]
 rw [e,zfz,Bool.and_self,if_pos rfl,if_pos rfl,List.any_map]
 have e2:((fun y=>PyData.eqv y (.bool true)) ∘ PyData.bool)=id:=by
  funext b
  cases b <;> rfl
 rw [e2]
section
variable {P : Program} {w : World} {K : PySem.W.Frag} {mg : Str → Option Value} {base : Heap} {k : Nat}
noncomputable abbrev zhm:Stmt:=top 25
theorem zs6:FnScope ["_law_one", "_law_other", "_law_product_here"] ["_law_one", "_law_other"] (zag zhm):=⟨rfl,rfl,rfl,by decide +kernel,rfl,by decide +kernel,by decide +kernel⟩
theorem zc3 (B:Blt mg) (zet:Def3 P w K mg base 2 "_law_under" ["_law_one", "_law_other"] (spO K (fun _=>True) 2 zrk)) (T:Top3 K mg "_law_within" zhm):Def3 P w K mg base 3 "_law_within" ["_law_one", "_law_other"] (spO K (fun _=>True) 2 zl2):=by
 refine mk_O T zs6 (fun _ _ _ _ _ _ us hl=>len2 hl fun _ _=>rfl) rfl fun f cdv A outer s H E O hφ C=>⟨_,(zae (zbt C (zcj (zcw C (zaa 0))) (za3 (h:=1000) 2) (zah (s_if (zyp C e_bl (zcx 1 ["_law_more", "_law_one", "_law_other", "_law_product_here"] C (fun _ => .of rfl (by kernel_rfl)) (zcw C (zaa 1)) (za3 0) zfa (zap (C.comp _ _) zet (fun _=>trivial) (zab (zaa 3) (zab (zaa 0) zac))))) (zah (zao e_bl)) za1))) (zah (zao e_bl))),fun ds Qr hn q=>?_⟩
 obtain ⟨es,fs,rfl,he,hf,hl,q⟩:=q
 have sz:=sizeLine_eq
 refine ⟨_,_,rfl,rfl,_,rfl,rfl,?_⟩
 refine zau (fun j ρ=>∃ o2:Option DV,ρ = [some (.im (encE es)),some (.im (encE fs)),o2]/\(es.take j).all (fun p=>fs.any fun o=>za0 p o)=true) ⟨none,rfl,rfl⟩ (fun ρ zz=>?_) fun j d ρ N hd hN zz=>?_
 ·obtain ⟨o2,e,h⟩:=zz
  subst e
  rw [List.length_map,List.take_of_length_le (Nat.le_refl _)] at h
  have:inE es fs=true:=h
  rw [this] at q
  exact q
 ·obtain ⟨o2,e,h⟩:=zz
  subst e
  rw [List.getElem?_map] at hd
  obtain ⟨p,hp,rfl⟩:=Option.map_eq_some_iff.mp hd
  have wp:=he p (List.mem_of_getElem? hp)
  refine ⟨zar p,?_⟩
  refine ⟨_,_,rfl,rfl,_,rfl,?_⟩
  refine zgy (α:=List Pc) (enc:=zaf) (e:=fun o => .bool (za0 p o)) (fun o ho P hP=>⟨_,_,rfl,rfl,_,_,rfl,rfl,rfl,p,o,rfl,wp,hf o ho,hP _ rfl⟩) (by lia) ?_
  have e1:=zp9 (bs:=fs.map fun o=>za0 p o)
  rw [List.map_map,List.any_map] at e1
  refine ⟨_,e1,_,rfl,?_⟩
  have e2:(fs.any (id ∘ fun o=>za0 p o))=fs.any fun o=>za0 p o:=rfl
  cases c:fs.any (id ∘ fun o=>za0 p o) with
  | true =>
    refine iteF (hN _ ⟨_,rfl,?_⟩)
    rw [List.take_add_one,hp,List.all_append,h]
    show (true && ((fs.any fun o=>za0 p o) && true))=true
    rw [<- e2,c]
    rfl
  | false =>
    have:inE es fs=false:=by
     unfold inE
     rw [Bool.eq_false_iff]
     intro z
     have:=List.all_eq_true.mp z p (List.mem_of_getElem? hp)
     rw [<- e2,c] at this
     cases this
    rw [this] at q
    exact iteT q
end
noncomputable def zo2:List PyData->(R->Prop)->Prop:=fun ds Q=>∃ (ps:List (List Pc)) (w:List Nat) (c:Nat),ds = [encE ps,nT (vec ps w),.str (tx [c])]/\(∀ p ∈ ps,WfPr p)/\ps.length<=1000/\zbv c/\Q (.o (nT (vec ps (w ++ [c]))))
theorem zz1 {p:List Pc} (wf:WfPr p) {w:List Nat} {c:Nat} {n:Int} (h1:n ∈ ((p.length+1:Nat):Int)::zax c (p.drop (posV p w)) (posV p w)) (h2:∀ m ∈ ((p.length+1:Nat):Int)::zax c (p.drop (posV p w)) (posV p w),n<=m):n=((posV p (w ++ [c]):Nat):Int):=by
 have r1:∀ q,runL p [c] q=pb p q (false,[c]):=fun q=>by
  show (match pb p q (false,[c]) with | none=>none | some q=>runL p [] q)=_
  cases pb p q (false,[c]) <;> rfl
 have e0:runL p (w ++ [c]) 0=(runL p w 0).bind fun q=>pb p q (false,[c]):=by
  rw [zeb]
  congr 1
  funext q
  exact r1 q
 have same:∀ k:Nat,(k:Int) ∈ ((p.length+1:Nat):Int)::zax c (p.drop (posV p w)) (posV p w)->(∀ m ∈ ((p.length+1:Nat):Int)::zax c (p.drop (posV p w)) (posV p w),(k:Int)<=m)->n=(k:Int):=fun k a b=>Int.le_antisymm (h2 _ a) (b _ h1)
 unfold posV at same ⊢
 rw [e0]
 cases h:runL p w 0 with
 | none =>
   rw [h] at same
   refine same (p.length+1) List.mem_cons_self fun m hm=>?_
   have:List.drop ((none:Option Nat).getD (p.length+1)) p = []:=List.drop_eq_nil_of_le (Nat.le_succ _)
   rw [this] at hm
   rcases List.mem_cons.mp hm with rfl | z
   ·exact Int.le_refl _
   ·cases z
 | some q =>
   rw [h] at same
   have hq:=zch wf (Nat.zero_le _) h
   show n=(((pb p q (false,[c])).getD (p.length+1):Nat):Int)
   rcases zjc (c:=c) (l:=p.drop q) (i:=q) (fun x hx=>wf.all x (List.mem_of_mem_drop hx)) with ⟨a,b⟩ | ⟨k,a,b,d⟩
   ·have a:pb p q (false,[c])=none:=a
    rw [a]
    refine same (p.length+1) List.mem_cons_self fun m hm=>?_
    rcases List.mem_cons.mp hm with rfl | z
    ·exact Int.le_refl _
    ·have z:m ∈ zax c (p.drop q) q:=z
     rw [b] at z;cases z
   ·have a:pb p q (false,[c])=some k:=a
    rw [a]
    refine same k (List.mem_cons_of_mem _ b) fun m hm=>?_
    rcases List.mem_cons.mp hm with rfl | z
    ·have:=zja hq a
     exact Int.ofNat_le.mpr (Nat.le_succ_of_le this)
    ·exact d m z
theorem pl1 {a i n:Nat} (h:i<n - a):a+i<n:=by lia
theorem pl2 {a n:Nat}:((n:Int) - (a:Int)).toNat=n - a:=by lia
section
variable {P : Program} {w : World} {K : PySem.W.Frag} {mg : Str → Option Value} {base : Heap} {k : Nat}
noncomputable abbrev zhx:Stmt:=top 26
theorem ztn:FnScope ["_law_products", "_law_spots", "_law_letter", "_law_found", "_law_product_here", "_law_spot", "_law_later", "_law_k"] ["_law_products", "_law_spots", "_law_letter"] (zag zhx):=⟨rfl,rfl,rfl,by decide +kernel,rfl,by decide +kernel,by decide +kernel⟩
theorem zd8 (B:Blt mg) (T:Top3 K mg "_law_places" zhx):Def3 P w K mg base 1 "_law_places" ["_law_products", "_law_spots", "_law_letter"] (spO K (fun _=>True) 3 zo2):=by
 refine mk_O T ztn (fun _ _ _ _ _ _ us hl=>len3 hl fun _ _ _=>rfl) rfl fun f cdv A outer s H E O hφ C=>⟨_,(zae (zan 3 (zcb zac)) (zae (zbt C (zcj (z3l C B (zab (zaa 0) (zab (zaa 1) zac)))) (zit (h:=1000) C (zby 4 (zby 5 zfv))) (zae (zan 6 (zcb (zab (zaw C (zbk C B (zab (zaa 4) zac)) zaj) zac))) (zae (zbt C (zcj (i_r2 C B (zab (zaa 5) (zab (zbk C B (zab (zaa 4) zac)) zac)))) (za3 (h:=1000) 7) (zah (s_if (t_in C (zaa 2) (za2 C (za2 C (zaa 4) (zaa 7)) zaj)) (zah (zem 6 C (zaw C (zaa 7) (znj C B (zab (e_eq C (za2 C (za2 C (zaa 4) (zaa 7)) zaj) zb3) zac))))) za1))) (zah (zem 3 C (zws C B (zab (zaa 6) zac))))))) (zah (zao (zde C B (zab (zaa 3) zac)))))),fun ds Qr hn q=>?_⟩
 obtain ⟨ps,w,c,rfl,hp,hl,hc,q⟩:=q
 have sz:=sizeLine_eq
 refine ⟨Nat.zero_le _,rfl,?_⟩
 refine ⟨_,_,rfl,rfl,_,_,rfl,rfl,ps.map zaf,(vec ps w).map fun n:Nat => .int n,rfl,zbf zar _,zbf (fun _=>rfl) _,rfl,?_⟩
 refine zau (fun j ρ=>∃ o4 o5 o6 o7:Option DV,ρ = [some (.im (encE ps)),some (.im (nT (vec ps w))),some (.im (.str (tx [c]))),some (.own ((ps.take j).map fun p => .int ((posV p (w ++ [c]):Nat):Int))),o4,o5,o6,o7]) ⟨none,none,none,none,rfl⟩ (fun ρ zz=>?_) fun j d ρ N hd hN zz=>?_
 ·obtain ⟨o4,o5,o6,o7,e⟩:=zz
  subst e
  rw [zh2,List.length_map,List.length_map,show (vec ps w).length=ps.length from List.length_map _,Nat.min_self,List.take_of_length_le (Nat.le_refl _)]
  refine ⟨_,_,rfl,rfl,_,rfl,?_⟩
  unfold nT vec at q
  rw [List.map_map] at q
  exact q
 ·obtain ⟨o4,o5,o6,o7,e⟩:=zz
  subst e
  obtain ⟨a,b,h1,h2,rfl⟩:=zhu hd
  rw [List.getElem?_map] at h1 h2
  obtain ⟨p,hpj,rfl⟩:=Option.map_eq_some_iff.mp h1
  unfold vec at h2
  rw [List.getElem?_map,hpj] at h2
  cases h2
  have wp:=hp p (List.mem_of_getElem? hpj)
  have lp:=wp.len
  have jl:=(List.getElem?_eq_some_iff.mp hpj).1
  have le:=zoq wp w
  refine ⟨by show (flat (zaf p) && (true && true))=true;rw [zar];rfl,_,rfl,?_⟩
  refine ⟨_,_,rfl,rfl,_,zgj p,_,rfl,by show 1<=sizeLine;lia,rfl,?_⟩
  dsimp only
  refine zdb (fun ρ=>∃ o7:Option DV,ρ = [some (.im (encE ps)),some (.im (nT (vec ps w))),some (.im (.str (tx [c]))),some (.own ((ps.take j).map fun p => .int ((posV p (w ++ [c]):Nat):Int))),some (.im (zaf p)),some (.im (.int ((posV p w:Nat):Int))),some (.own ((((p.length+1:Nat):Int)::zax c (p.drop (posV p w)) (posV p w)).map .int)),o7]) (fun N hN=>?_) fun ρ zz=>?_
  ·refine ⟨_,_,rfl,rfl,_,_,rfl,rfl,_,zgj p,((posV p w:Nat):Int),_,rfl,⟨by lia,by lia,by lia,by lia⟩,rfl,?_⟩
   have en:((p.length:Int) - ((posV p w:Nat):Int)).toNat=p.length - posV p w:=pl2
   rw [en]
   refine zau (fun i ρ=>∃ o7:Option DV,ρ = [some (.im (encE ps)),some (.im (nT (vec ps w))),some (.im (.str (tx [c]))),some (.own ((ps.take j).map fun p => .int ((posV p (w ++ [c]):Nat):Int))),some (.im (zaf p)),some (.im (.int ((posV p w:Nat):Int))),some (.own ((((p.length+1:Nat):Int)::zax c ((p.drop (posV p w)).take i) (posV p w)).map .int)),o7]) ⟨o7,rfl⟩ (fun ρ ⟨o7,e⟩=>hN ρ ⟨o7,?_⟩) fun i d ρ N2 hd hN2 zz=>?_
   ·rw [e,zek,show (p.drop (posV p w)).take (p.length - posV p w)=p.drop (posV p w) from List.take_of_length_le (by rw [List.length_drop];exact Nat.le_refl _)]
   ·obtain ⟨o7,e⟩:=zz
    subst e
    obtain ⟨hi,rfl⟩:=zdn hd
    have ej:(((posV p w:Nat):Int)+(i:Nat))=((posV p w+i:Nat):Int):=by lia
    rw [ej]
    have hk:posV p w+i<p.length:=pl1 hi
    have hi2:=zmi hk
    have hdl:(p.drop (posV p w)).length=p.length - posV p w:=List.length_drop
    have hg:(p.drop (posV p w))[i]'(by rw [hdl];exact hi)=p[posV p w+i]:=List.getElem_drop
    have tk:=zfj (c:=c) (l:=p.drop (posV p w)) (i:=posV p w) (k:=i) (by rw [hdl];exact hi)
    rw [hg] at tk
    refine ⟨rfl,_,_,rfl,rfl,_,_,rfl,rfl,_,_,rfl,rfl,_,hi2,_,rfl,_,ziu,_,rfl,?_⟩
    rw [if_neg Bool.false_ne_true]
    refine ite2 (fun z2=>?_) (fun z2=>?_)
    ·have z3:=of_decide_eq_true z2
     rw [if_pos z3] at tk
     refine ⟨_,rfl,_,_,rfl,rfl,_,_,rfl,rfl,_,_,rfl,rfl,_,hi2,_,rfl,_,zcu (zbn _) (by decide +kernel),_,rfl,_,rfl,rfl,?_,?_⟩
     ·have:=zga (c:=c) (l:=(p.drop (posV p w)).take i) (i:=posV p w)
      rw [List.length_take] at this
      rw [List.length_map,List.length_cons]
      exact Nat.lt_of_le_of_lt (Nat.succ_le_succ (Nat.le_trans this (Nat.le_trans (Nat.min_le_right _ _) (Nat.le_trans (by rw [hdl];exact Nat.sub_le _ _) lp)))) (by rw [sz];decide)
     ·refine hN2 _ ⟨some (.im (.int ((posV p w+i:Nat):Int))),?_⟩
      rw [tk,<- List.cons_append,List.map_append,zff]
      cases p[posV p w+i].1 <;> rfl
    ·rw [if_neg (by simpa using z2)] at tk
     refine hN2 _ ⟨some (.im (.int ((posV p w+i:Nat):Int))),?_⟩
     rw [tk,List.append_nil]
     rfl
  ·obtain ⟨o7,e⟩:=zz
   subst e
   refine ⟨_,rfl,_,_,rfl,rfl,_,rfl,by simp,fun n n1 n2=>?_⟩
   rw [zz1 wp n1 n2]
   refine ⟨rfl,by rw [List.length_map,List.length_take];exact Nat.lt_of_le_of_lt (Nat.le_trans (Nat.min_le_right _ _) hl) (by rw [sz];decide),hN _ ⟨some (.im (zaf p)),some (.im (.int ((posV p w:Nat):Int))),some (.own ((((p.length+1:Nat):Int)::zax c (p.drop (posV p w)) (posV p w)).map .int)),o7,?_⟩⟩
   rw [zdo hpj,List.map_append]
   rfl
end
noncomputable def zt3:List PyData->(R->Prop)->Prop:=fun ds Q=>∃ (z:List Nat) (es fs:List (List Pc)),ds = [.str (tx z),encE es,encE fs]/\LowW z/\z.length<=26/\z.Pairwise (· < ·)/\(∀ p ∈ es++fs,∀ x ∈ p,∀ c ∈ x.2,c ∈ z)/\PtIn es fs/\∀ d,PtRes es fs d->Q (.o d)
theorem zns:∀ ps:List (List Pc),(List.replicate ps.length [PyData.int 0]).flatten=(vec ps []).map fun n:Nat => .int n
 | []=>rfl
 | p::ps=>by
   rw [List.length_cons,List.replicate_succ,List.flatten_cons,zns ps]
   rfl
noncomputable def encW (ps:List (List Pc)) (w:List Nat):PyData := .tuple [nT (vec ps w),.str (tx w)]
theorem zpc (v:List Nat):flat (nT v)=true:=zbf (fun _=>rfl) v
theorem zgc (ps:List (List Pc)) (w:List Nat):flat (encW ps w)=true:=by
 show (flat (nT (vec ps w)) && (true && true))=true
 rw [zpc]
 rfl
theorem me1L {a b:Nat} (h:a<=b):(2402 - b) * 2+0<(2402 - a) * 2+1:=by lia
theorem me2L {a b:Nat} (h:a<b) (k:b<=2401):(2402 - b) * 2+1<(2402 - a) * 2+1:=by lia
section
variable {P : Program} {w : World} {K : PySem.W.Frag} {mg : Str → Option Value} {base : Heap} {k : Nat}
noncomputable abbrev zfw:Stmt:=top 27
theorem zp7:FnScope ["_law_letters_here", "_law_one", "_law_other", "_law_products", "_law_layer", "_law_known", "_law_later", "_law_spots", "_law_word", "_law_letter", "_law_more"] ["_law_letters_here", "_law_one", "_law_other"] (zag zfw):=⟨rfl,rfl,rfl,by decide +kernel,rfl,by decide +kernel,by decide +kernel⟩
theorem zdu (B:Blt mg) (zck:Def3 P w K mg base 2 "_law_one_has" ["_law_expression_here", "_law_word"] (spO K (fun _=>True) 2 zo3)) (zd8:Def3 P w K mg base 1 "_law_places" ["_law_products", "_law_spots", "_law_letter"] (spO K (fun _=>True) 3 zo2)) (T:Top3 K mg "_law_parting" zfw):Def3 P w K mg base 3 "_law_parting" ["_law_letters_here", "_law_one", "_law_other"] (spO K (fun _=>True) 3 zt3):=by
 refine mk_O T zp7 (fun _ _ _ _ _ _ us hl=>len3 hl fun _ _ _=>rfl) rfl fun f cdv A outer s H E O hφ C=>⟨_,(zae (zan 3 (zaw C (zaa 1) (zaa 2))) (zae (zan 4 (zcb (zab (za8 (zab (zn1 C (za8 (zab zaj zac)) (zbk C B (zab (zaa 3) zac))) (zab zb3 zac))) zac))) (zae (zyz 5 C (zn1 C (za8 (zab zaj zac)) (zbk C B (zab (zaa 3) zac))) e_bl) (zae (zj6 C (t_gt (zbk C B (zab (zaa 4) zac)) zaj) (zae (zan 6 (zcb zac)) (zae (zix 4 (zbt C (zie C 4) (zit (h:=1000) C (zby 7 (zby 8 zfv))) (zae (s_if (t_ne C (zap C zck (fun _=>trivial) (zab (zaa 1) (zab (zaa 8) zac))) (zap C zck (fun _=>trivial) (zab (zaa 2) (zab (zaa 8) zac)))) (zah (zao (zaa 8))) za1) (zah (zbt C (zcj (zle (zaa 0))) (za3 (h:=1000) 9) (zae (zan 10 (zap C zd8 (fun _=>trivial) (zab (zaa 3) (zab (zaa 7) (zab (zaa 9) zac))))) (zah (s_if (zsy 5 C (zaa 10)) (zae (zpa 5 C e_bl (zaa 10)) (zah (zem 6 C (za8 (zab (zaa 10) (zab (zaw C (zaa 8) (zaa 9)) zac)))))) za1)))))))) (zah (zix 6 (ztf 4 6)))))) (zah (zao zfp)))))),fun ds Qr hn q=>?_⟩
 obtain ⟨z,es,fs,rfl,hz1,hz2,hz3,hz,I,q⟩:=q
 have sz:=sizeLine_eq
 have wE:∀ e ∈ es,WfPr e:=fun e he=>(I.r1 e he).wf
 have wF:∀ e ∈ fs,WfPr e:=fun e he=>(I.r2 e he).wf
 have nn1:=I.n1
 have nn2:=I.n2
 have na:es.length+fs.length<=4:=by lia
 obtain ⟨ps,hps⟩:∃ ps,ps=es++fs:=⟨_,rfl⟩
 have wa:∀ e ∈ ps,WfPr e:=fun e he=>by rw [hps] at he;exact (List.mem_append.mp he).elim (wE e) (wF e)
 have la:∀ e ∈ ps,e.length<=5:=fun e he=>by rw [hps] at he;exact (List.mem_append.mp he).elim (I.l1 e) (I.l2 e)
 have pl:ps.length<=4:=by rw [hps,List.length_append];exact na
 have kf:∀ {ks:List PyData},ks.Nodup->(∀ k ∈ ks,∃ u,k=nT (vec ps u))->ks.length<=2401:=fun nd h=>zrz wa la pl nd h
 have cong:∀ u w,vec ps u=vec ps w->∀ s,zay es fs (w++s)->zay es fs (u++s):=fun u w e s p h=>p (by
  have e2:∀ x ∈ ps,posV x w=posV x u:=fun x hx=>(List.map_inj_left.mp e x hx).symm
  rw [zgp wE (fun x hx=>e2 x (by rw [hps];simp [hx])) s,zgp wF (fun x hx=>e2 x (by rw [hps];simp [hx])) s]
  exact h)
 have hs:∀ W,zay es fs W->∀ c ∈ W,c ∈ z:=fun W p c hc=>by
  have:wds es W\/wds fs W:=Classical.byContradiction fun q=>p ⟨fun a=>absurd (.inl a) q,fun a=>absurd (.inr a) q⟩
  rcases this with ⟨x,hx,m⟩ | ⟨x,hx,m⟩
  ·obtain ⟨y,hy,h⟩:=zg4 m c hc
   exact hz x (by simp [hx]) y hy c h
  ·obtain ⟨y,hy,h⟩:=zg4 m c hc
   exact hz x (by simp [hx]) y hy c h
 have len_E:lenF [encE ps]=some (.o (.int (ps.length:Nat))):=by show some (R.o (.int _))=_;rw [List.length_map]
 have zv:=zns ps
 have mul0:∀ Q:R->Prop,Q (.o (nT (vec ps [])))->mulD (.tuple [.int 0]) (.int (ps.length:Nat)) Q:=fun Q q=>by
  refine ⟨_,rfl,by lia,by lia,by rw [Int.toNat_natCast];show 1 * _<=sizeLine;lia,?_⟩
  show Q (.o (.tuple (List.replicate (Int.toNat (ps.length:Nat)) [PyData.int 0]).flatten))
  rw [Int.toNat_natCast,zv]
  exact q
 refine ⟨_,_,rfl,rfl,_,_,rfl,rfl,_,zi9 (by lia),zcq _,?_⟩
 rw [<- hps]
 refine ⟨by show 1<=sizeLine;lia,_,_,rfl,rfl,_,len_E,mul0 _ ⟨by show 2<=sizeLine;lia,by show 1<=sizeLine;lia,by show (flat (encW ps []) && true)=true;rw [zgc];rfl,?_⟩⟩
 refine ⟨by show 1<=sizeLine;lia,_,_,rfl,rfl,_,len_E,mul0 _ ⟨rfl,zjj,?_⟩⟩
 refine ⟨fun m ρ=>∃ (n:Nat) (ws:List (List Nat)) (ks vs:List PyData) (d4:DV) (o6 o7 o8 o9 o10:Option DV),ρ = [some (.im (.str (tx z))),some (.im (encE es)),some (.im (encE fs)),some (.im (encE ps)),some d4,some (.gen (ddO w ks) (ks++vs)),o6,o7,o8,o9,o10] /\
  (d4 = .own (ws.map (encW ps))\/d4 = .im (.list (ws.map (encW ps))))/\ks.length=vs.length/\PHd ps (zay es fs) z n ws ks/\m=(2402 - ks.length) * 2+(if ws = [] then 0 else 1),
  ⟨_,0,[[]],[nT (vec ps [])],[.bool true],_,none,none,none,none,none,rfl,.inl rfl,rfl,.start,rfl⟩,?_⟩
 rintro m ρ ⟨n,ws,ks,vs,d4,o6,o7,o8,o9,o10,rfl,h4,hv,hd,rfl⟩
 have k1:=kf hd.nd fun k hk=>let ⟨u,e,_⟩:=hd.key k hk; ⟨u,e⟩
 have key:∀ d4:DV,(d4 = .own (ws.map (encW ps))\/d4 = .im (.list (ws.map (encW ps))))->∀ Q:Bool->Prop,Q (!decide (ws = []))->bD (opDE (fn2 (intF fun i j=>PyData.bool (decide (j<i)))) (zbm (fn1 lenF) (zcc (vD 4) aNil)) (cD (PyData.int 0))) [some (.im (.str (tx z))),some (.im (encE es)),some (.im (encE fs)),some (.im (encE ps)),some d4,some (.gen (ddO w ks) (ks++vs)),o6,o7,o8,o9,o10] Q:=fun d4 h Q q=>by
  have e:(!decide (ws = []))=decide ((0:Int)<(((ws.map (encW ps)).length:Nat):Int)):=by cases ws <;> simp
  rw [e] at q
  rcases h with rfl | rfl
  ·exact ⟨_,_,rfl,rfl,_,rfl,_,rfl,_,rfl,q⟩
  ·exact ⟨_,_,rfl,rfl,_,rfl,_,rfl,_,rfl,q⟩
 refine key d4 h4 _ ?_
 by_cases te:ws = []
 ·rw [decide_eq_true te]
  subst te
  exact iteF (q _ (.inl ⟨rfl,hd.none⟩))
 rw [decide_eq_false te]
 refine iteT ⟨Nat.zero_le _,rfl,?_⟩
 dsimp only
 refine zdb (fun ρ=>∃ (lg:List (List Nat)) (kt vt:List PyData) (o7 o8 o9 o10:Option DV),ρ = [some (.im (.str (tx z))),some (.im (encE es)),some (.im (encE fs)),some (.im (encE ps)),some (.im (.list (ws.map (encW ps)))),some (.gen (ddO w kt) (kt++vt)),some (.own (lg.map (encW ps))),o7,o8,o9,o10] /\
  kt.length=vt.length/\PMd ps (zay es fs) z n ks.length (DnR n ws ws.length) lg kt/\∀ u ∈ ws,¬ zay es fs u) (fun N hN=>?_) fun ρ zz=>?_
 ·refine znr h4 rfl ⟨_,rfl,?_⟩
  refine zau (fun j ρ=>∃ (lg:List (List Nat)) (kt vt:List PyData) (o7 o8 o9 o10:Option DV),ρ = [some (.im (.str (tx z))),some (.im (encE es)),some (.im (encE fs)),some (.im (encE ps)),some (.im (.list (ws.map (encW ps)))),some (.gen (ddO w kt) (kt++vt)),some (.own (lg.map (encW ps))),o7,o8,o9,o10] /\
   kt.length=vt.length/\PMd ps (zay es fs) z n ks.length (DnR n ws j) lg kt/\∀ u ∈ ws.take j,¬ zay es fs u) ⟨[],ks,vs,o7,o8,o9,o10,rfl,hv,hd.mid,by simp⟩ (fun ρ zz=>by
    obtain ⟨lg,kt,vt,o7,o8,o9,o10,e,g3,g4,g5⟩:=zz
    rw [List.length_map] at g4 g5
    rw [List.take_of_length_le (Nat.le_refl _)] at g5
    exact hN ρ ⟨lg,kt,vt,o7,o8,o9,o10,e,g3,g4,g5⟩) fun j d ρ N hj hN zz=>?_
  obtain ⟨lg,kt,vt,o7,o8,o9,o10,e,g3,g4,g5⟩:=zz
  subst e
  rw [List.getElem?_map] at hj
  obtain ⟨v,hvj,rfl⟩:=Option.map_eq_some_iff.mp hj
  obtain ⟨vn,vz⟩:=hd.ok v (List.mem_of_getElem? hvj)
  have vl:v.length<=2401:=by rw [vn];exact Nat.le_trans (Nat.le_of_lt (hd.lvl te)) k1
  have vlow:LowW v:=fun c hc=>hz1 c (vz c hc)
  refine ⟨zgc ps v,_,rfl,?_⟩
  refine ⟨_,_,rfl,rfl,_,_,rfl,rfl,rfl,es,v,rfl,wE,Nat.le_trans nn1 (by decide),vlow,Nat.le_trans vl (by decide),_,_,rfl,rfl,_,_,rfl,rfl,rfl,fs,v,rfl,wF,Nat.le_trans nn2 (by decide),vlow,Nat.le_trans vl (by decide),_,zl1,_,rfl,?_⟩
  rw [if_pos rfl]
  by_cases hp:zay es fs v
  ·have ne:(!((es.any fun p=>hasB p v) == (fs.any fun p=>hasB p v)))=true:=by
    cases zz:((es.any fun p=>hasB p v) == (fs.any fun p=>hasB p v)) with
    | false=>rfl
    | true =>
      rw [beq_iff_eq,Bool.eq_iff_iff,zg2 I.r1,zg2 I.r2] at zz
      exact absurd zz hp
   rw [ne]
   exact iteT ⟨_,_,rfl,rfl,q _ (.inr ⟨v,rfl,hd.parts hvj g5 hp,vlow,Nat.le_trans vl (by decide)⟩)⟩
  have eq:(!((es.any fun p=>hasB p v) == (fs.any fun p=>hasB p v)))=false:=by
   rw [z2y I.r1 I.r2 (Classical.byContradiction fun zz=>hp zz)]
   simp
  rw [eq]
  refine iteF ⟨_,_,rfl,rfl,_,rfl,rfl,?_⟩
  have e1:sgs (tx z)=z.map fun c => .str (tx [c]):=by unfold sgs;rw [zbe];rfl
  rw [e1]
  refine zau (fun i ρ=>∃ (lg:List (List Nat)) (kt vt:List PyData) (o9 o10:Option DV),ρ = [some (.im (.str (tx z))),some (.im (encE es)),some (.im (encE fs)),some (.im (encE ps)),some (.im (.list (ws.map (encW ps)))),some (.gen (ddO w kt) (kt++vt)),some (.own (lg.map (encW ps))),some (.im (nT (vec ps v))),some (.im (.str (tx v))),o9,o10] /\
   kt.length=vt.length/\PMd ps (zay es fs) z n ks.length (DnL n ws j z v i) lg kt) ⟨lg,kt,vt,o9,o10,rfl,g3,g4.weak (fun u _ h => .inl h) fun W _ _ h=>h.elim id fun ⟨c,hc,_⟩=>by cases hc⟩ (fun ρ zz=>?_) fun i d ρ N2 hi hN2 zz=>?_
  ·obtain ⟨lg,kt,vt,o9,o10,e,g3,g4⟩:=zz
   subst e
   rw [List.length_map] at g4
   refine hN _ ⟨lg,kt,vt,_,_,o9,o10,rfl,g3,g4.row hd hvj hs,fun u hu=>?_⟩
   rw [List.take_add_one,hvj] at hu
   rcases List.mem_append.mp hu with hu | hu
   ·exact g5 u hu
   ·have:u=v:=by simpa using hu
    rw [this]
    exact hp
  ·obtain ⟨lg,kt,vt,o9,o10,e,g3,g4⟩:=zz
   subst e
   rw [List.getElem?_map] at hi
   obtain ⟨c,hc,rfl⟩:=Option.map_eq_some_iff.mp hi
   have cz:=List.mem_of_getElem? hc
   have k2:=kf g4.nd fun k hk=>let ⟨u,e,_⟩:=g4.key k hk; ⟨u,e⟩
   have lt:∀ u ∈ lg,wlt u (v ++ [c])=true:=fun u hu=>hd.lt hvj hz3 hc (g4.ok u hu).1 (g4.of u hu)
   have ln:(v ++ [c]).length=n+1:=by rw [List.length_append,vn];rfl
   refine ⟨rfl,_,_,rfl,rfl,_,_,rfl,rfl,_,_,rfl,rfl,rfl,ps,v,c,rfl,wa,Nat.le_trans pl (by decide),hz1 c cz,zpc _,?_⟩
   refine ⟨kt,vt,⟨g3,.inl rfl⟩,_,_,rfl,rfl,zjj,fun b hb=>?_⟩
   cases b with
   | false =>
     have hk:nT (vec ps (v ++ [c])) ∈ kt:=Classical.byContradiction fun q=>by have:=hb.mpr q;cases this
     exact iteF (hN2 _ ⟨lg,kt,vt,_,_,rfl,g3,(g4.skip cong ln lt hk).weak (fun u _ h=>(zfl hc u).mp h) fun W _ _ h=>(zfl hc _).mpr h⟩)
   | true =>
     have nk:=hb.mp rfl
     have hN3:∀ (qs:List (List Nat)) (ds:List PyData) (kt vt:List PyData) (o9 o10:Option DV),qs.map (encW ps)=ds->kt.length=vt.length->PMd ps (zay es fs) z n ks.length (DnL n ws j z v (i+1)) qs kt->N2 [some (.im (.str (tx z))),some (.im (encE es)),some (.im (encE fs)),some (.im (encE ps)),some (.im (.list (ws.map (encW ps)))),some (.gen (ddO w kt) (kt++vt)),some (.own ds),some (.im (nT (vec ps v))),some (.im (.str (tx v))),o9,o10]:=fun qs ds kt vt o9 o10 e a b=>by subst e;exact hN2 _ ⟨qs,kt,vt,o9,o10,rfl,a,b⟩
     have ll:=g4.len
     refine iteT ⟨kt,vt,g3,rfl,_,_,rfl,rfl,rfl,zjj,nk,by rw [sz];exact Nat.lt_of_le_of_lt k2 (by decide),?_⟩
     refine ⟨_,rfl,_,_,rfl,rfl,_,_,rfl,rfl,_,_,rfl,rfl,_,zru (by rw [List.length_singleton];lia),by show 2<=sizeLine;lia,zgc ps (v ++ [c]),by rw [List.length_map];lia,?_⟩
     have vz2:∀ d ∈ v ++ [c],d ∈ z:=fun d hd=>by
      rcases List.mem_append.mp hd with q | q
      ·exact vz d q
      ·rw [List.mem_singleton.mp q]
       exact cz
     exact hN3 (lg ++ [v ++ [c]]) (lg.map (encW ps) ++ [encW ps (v ++ [c])]) (kt ++ [nT (vec ps (v ++ [c]))]) (vt ++ [.bool true]) (some (.im (.str (tx [c])))) (some (.im (nT (vec ps (v ++ [c]))))) (by rw [List.map_append];rfl) (by rw [List.length_append,List.length_append,g3];rfl) ((g4.add ln vz2 lt nk).weak (fun u _ h=>(zfl hc u).mp h) fun W _ _ h=>(zfl hc _).mpr h)
 ·obtain ⟨lg,kt,vt,o7,o8,o9,o10,e,g3,g4,g5⟩:=zz
  subst e
  have k2:=kf g4.nd fun k hk=>let ⟨u,e,_⟩:=g4.key k hk; ⟨u,e⟩
  have ll:=g4.len
  refine .inr ⟨_,rfl,_,rfl,?_⟩
  refine ⟨_,?_,n+1,lg,kt,vt,.im (.list (lg.map (encW ps))),some (.im (.list (lg.map (encW ps)))),o7,o8,o9,o10,rfl,.inr rfl,g3,g4.head hd g5,rfl⟩
  rw [if_neg te]
  by_cases le:lg = []
  ·rw [if_pos le]
   exact me1L (by lia)
  ·rw [if_neg le]
   exact me2L (by have:=List.length_pos_iff.mpr le;lia) k2
end
noncomputable def zwh:List PyData->(R->Prop)->Prop:=fun ds Q=>∃ (ls:List Nat) (es:List (List Pc)) (n:Nat),ds = [.str (tx ls),encE es,.int n]/\LowW ls/\ls ≠ []/\ls.length<=3/\n<=5/\(∀ pr ∈ es,(∀ p ∈ pr,GPc ls p)/\pr.length<=n)/\es.length<=2/\∀ es':List (List Pc),(∀ pr ∈ es',(∀ p ∈ pr,GPc ls p)/\pr.length<=n)->es'.length<=2->Q (.o (encE es'))
theorem ztg {l:List (List Pc)} {i:Nat}:slcF none (some ((i:Nat):Int)) (encE l)=some (.o (encE (l.take i))):=by
 show some (R.o (.tuple (cutL (l.map zaf) none (some ((i:Nat):Int)))))=_
 rw [zc2,<- List.map_take]
 rfl
theorem zv4 {l:List (List Pc)} {i:Nat}:slcF (some ((i:Nat):Int)) none (encE l)=some (.o (encE (l.drop i))):=by
 show some (R.o (.tuple (cutL (l.map zaf) (some ((i:Nat):Int)) none)))=_
 rw [zc9,<- List.map_drop]
 rfl
theorem zm4 {α:Type} (l:List α) (n:Nat):(l.take n++l.drop (n+1)).length<=l.length:=by rw [List.length_append,List.length_take,List.length_drop];lia
theorem tl3N {a b n:Nat} (h:n<=50):min a n+1+(n - (a+b))<=16777216:=by lia
theorem nr1 {n a:Nat} (h:n<=2):n - (a+1)+min a n<64:=by lia
theorem nr2 {n a:Nat} (h:n<=2):n - (a+1)+min a n+1<64:=by lia
theorem nr3 {n a:Nat} (h:a<n) (h':n<=2):n - (a+1)+min a n+1<=2:=by lia
section
variable {P : Program} {w : World} {K : PySem.W.Frag} {mg : Str → Option Value} {base : Heap} {k : Nat}
noncomputable abbrev zma:Stmt:=top 28
theorem zxi:FnScope ["_law_pot_here", "_law_letters_here", "_law_expression_here", "_law_pieces", "_law_form", "_law_at", "_law_one", "_law_k"] ["_law_pot_here", "_law_letters_here", "_law_expression_here", "_law_pieces"] (zag zma):=⟨rfl,rfl,rfl,by decide +kernel,rfl,by decide +kernel,by decide +kernel⟩
theorem ze7 (B:Blt mg) (d_law_draw:zjd P w K mg base) (zbs:Def3 P w K mg base 2 "_law_piece" ["_law_pot_here", "_law_letters_here"] (spD K IsPot 1 zi4)) (zbh:Def3 P w K mg base 4 "_law_expression" ["_law_pot_here", "_law_letters_here", "_law_most", "_law_pieces"] (spD K IsPot 3 zqd)) (T:Top3 K mg "_law_near" zma):Def3 P w K mg base 5 "_law_near" ["_law_pot_here", "_law_letters_here", "_law_expression_here", "_law_pieces"] (spD K IsPot 3 zwh):=by
 refine mk_D T zxi (fun _ _ _ _ _ _ us hl=>len4 hl fun _ _ _ _=>rfl) rfl fun f cdv A outer s H E O hφ C=>?_
 have hO:∀ j:Unit,IsPot ((fun _:Unit=>O) j):=fun _=>hφ
 refine ⟨_,(zae (zan 4 (zat 0 C d_law_draw hO (zab zaj zac))) (zae (s_if (t_w (w_or (t_eq C (zaa 4) zaj) (zqv (t_eq C (zbk C B (zab (zaa 2) zac)) zaj)))) (zah (zao (zat 0 C zbh hO (zab (zaa 1) (zab zaj (zab (zaa 3) zac)))))) za1) (zae (zan 5 (zat 0 C d_law_draw hO (zab (zbk C B (zab (zaa 2) zac)) zac))) (zae (zan 6 (za2 C (zaa 2) (zaa 5))) (zae (zan 7 (zat 0 C d_law_draw hO (zab (zaw C (zbk C B (zab (zaa 6) zac)) zaj) zac))) (zae (s_if (t_eq C (zaa 4) zaj) (zah (zan 6 (zbd C (zaw C (zaw C (zbd C (zaa 6) zbp (zbo (zaa 7))) (za8 (zab (zat 0 C zbs hO (zab (zaa 1) zac)) zac))) (zbd C (zaa 6) (zbo (zaw C (zaa 7) (zat 0 C d_law_draw hO (zab zaj zac)))) zbp)) zbp (zbo (zaa 3))))) za1) (zae (s_if (t_eq C (zaa 4) zaj) (zah (zan 6 (zaw C (zbd C (zaa 6) zbp (zbo (zaa 7))) (zbd C (zaa 6) (zbo (zaw C (zaa 7) zaj)) zbp)))) za1) (zae (s_if (t_eq C (zaa 4) zaj) (zah (zao (zbd C (zaw C (zaa 2) (za8 (zab (zaw C (zbd C (zaa 6) zbp (zbo (zaa 7))) (zbd C (zaa 6) (zbo (zaw C (zaa 7) zaj)) zbp)) zac))) zbp (zbo zaj)))) za1) (zah (zao (zaw C (zaw C (zbd C (zaa 2) (zbo (zaw C (zaa 5) zaj)) zbp) (zbd C (zaa 2) zbp (zbo (zaa 5)))) (za8 (zab (zaa 6) zac))))))))))))),fun ds Qr hn q=>?_⟩
 obtain ⟨ls,es,n,rfl,hw,hne,hl,hn5,he,hn2,q⟩:=q
 have sz:=sizeLine_eq
 have len_E:lenF [encE es]=some (.o (.int (es.length:Nat))):=by show some (R.o (.int _))=_;rw [List.length_map]
 refine zdj rfl (by decide) (by decide) fun k hk=>⟨rfl,?_⟩
 refine ⟨_,_,rfl,rfl,_,zca,_,rfl,?_⟩
 refine ite2 (fun _=>iteT ⟨rfl,_,_,rfl,rfl,_,_,rfl,rfl,rfl,ls,2,n,rfl,hw,hne,by lia,by decide,by lia,fun gs g1 g2=>q gs g1 g2⟩) fun _=>?_
 refine ⟨_,_,rfl,rfl,_,len_E,_,zca,_,rfl,?_⟩
 refine ite2 (fun _=>⟨rfl,_,_,rfl,rfl,_,_,rfl,rfl,rfl,ls,2,n,rfl,hw,hne,by lia,by decide,by lia,fun gs g1 g2=>q gs g1 g2⟩) fun z=>?_
 have h0:0<es.length:=by
  rcases Nat.eq_zero_or_pos es.length with h | h
  ·rw [h] at z
   exact absurd rfl z
  ·exact h
 refine znu rfl rfl rfl len_E h0 (by lia) fun a ha=>⟨rfl,?_⟩
 obtain ⟨a1,a2⟩:=he es[a] (List.getElem_mem ha)
 refine ⟨_,_,rfl,rfl,_,_,rfl,rfl,_,zpr (i:=a) (d:=zaf es[a]) (by rw [List.getElem?_map,List.getElem?_eq_getElem ha];rfl),zar _,?_⟩
 generalize es[a]=one at a1 a2
 refine zko rfl rfl rfl (zgj one) (by lia) fun b hb=>⟨rfl,?_⟩
 dsimp only
 refine zdb (fun ρ=>∃ ps:List Pc,ρ = [some .ob,some (.im (.str (tx ls))),some (.im (encE es)),some (.im (.int n)),some (.im (.int (k:Nat))),some (.im (.int (a:Nat))),some (.im (zaf ps)),some (.im (.int (b:Nat)))]/\(∀ p ∈ ps,GPc ls p)/\ps.length<=n) (fun N hN=>?_) fun ρ zz=>?_
 ·refine ⟨_,_,rfl,rfl,_,zca,_,rfl,ite2 (fun _=>?_) fun _=>hN _ ⟨one,rfl,a1,a2⟩⟩
  refine ⟨_,_,rfl,rfl,_,_,rfl,rfl,_,rfl,_,zdg one _ _,?_⟩
  rw [zc2]
  refine ⟨rfl,_,_,rfl,rfl,rfl,ls,rfl,hw,hne,by lia,fun p hp hps=>⟨by show 1<=sizeLine;lia,_,zex (b := [p]) (by rw [List.length_take,List.length_singleton];lia),?_⟩⟩
  refine ⟨_,_,rfl,rfl,_,_,rfl,rfl,zdj rfl (by decide) (by decide) fun k3 hk3=>⟨_,rfl,_,rfl,_,zdg one _ _,?_⟩⟩
  rw [show ((b:Int)+(k3:Nat))=((b+k3:Nat):Int) by lia,zc9]
  refine ⟨_,zex (by rw [List.length_append,List.length_take,List.length_drop,List.length_singleton];exact tl3N (Nat.le_trans a2 (Nat.le_trans hn5 (by decide)))),_,_,rfl,rfl,_,rfl,_,zdg _ _ _,zar _,hN _ ⟨_,rfl,?_,?_⟩⟩
  ·rw [zc2]
   intro x hx
   rcases List.mem_append.mp (List.mem_of_mem_take hx) with hx | hx
   ·rcases List.mem_append.mp hx with hx | hx
    ·exact a1 x (List.mem_of_mem_take hx)
    ·rw [List.mem_singleton.mp hx];exact ⟨hp,hps⟩
   ·exact a1 x (List.mem_of_mem_drop hx)
  ·rw [zc2,List.length_take]
   exact Nat.min_le_left _ _
 obtain ⟨ps,e,p1,p2⟩:=zz
 subst e
 refine zdb (fun ρ=>∃ ps:List Pc,ρ = [some .ob,some (.im (.str (tx ls))),some (.im (encE es)),some (.im (.int n)),some (.im (.int (k:Nat))),some (.im (.int (a:Nat))),some (.im (zaf ps)),some (.im (.int (b:Nat)))]/\(∀ p ∈ ps,GPc ls p)/\ps.length<=n) (fun N hN=>?_) fun ρ zz=>?_
 ·refine ⟨_,_,rfl,rfl,_,zca,_,rfl,ite2 (fun _=>?_) fun _=>hN _ ⟨ps,rfl,p1,p2⟩⟩
  refine ⟨_,_,rfl,rfl,_,_,rfl,rfl,_,rfl,_,zdg ps _ _,?_⟩
  rw [zc2]
  refine ⟨_,_,rfl,rfl,_,_,rfl,rfl,_,rfl,_,rfl,_,zdg ps _ _,?_⟩
  rw [show ((b:Int)+1)=((b+1:Nat):Int) by lia,zc9]
  have ol:=Nat.le_trans (zm4 ps b) p2
  refine ⟨_,zex (by rw [<- List.length_append];exact Nat.le_trans ol (Nat.le_trans hn5 (by decide))),zar _,hN _ ⟨_,rfl,fun p hp=>?_,ol⟩⟩
  rcases List.mem_append.mp hp with hp | hp
  ·exact p1 p (List.mem_of_mem_take hp)
  ·exact p1 p (List.mem_of_mem_drop hp)
 obtain ⟨ps,e,p1,p2⟩:=zz
 subst e
 have oneOk:∀ {x:List Pc} {l:List (List Pc)},((∀ p ∈ x,GPc ls p)/\x.length<=n)->(∀ y ∈ l,y ∈ es)->∀ pr ∈ l ++ [x],(∀ p ∈ pr,GPc ls p)/\pr.length<=n:=fun hx hl pr hpr=>by
  rcases List.mem_append.mp hpr with h | h
  ·exact he pr (hl pr h)
  ·rw [List.mem_singleton.mp h];exact hx
 refine ⟨_,_,rfl,rfl,_,zca,_,rfl,ite2 (fun _=>?_) fun _=>?_⟩
 ·refine ⟨_,_,rfl,rfl,_,_,rfl,rfl,_,_,rfl,rfl,_,rfl,_,zdg ps _ _,?_⟩
  rw [zc2]
  refine ⟨_,_,rfl,rfl,_,_,rfl,rfl,_,rfl,_,rfl,_,zdg ps _ _,?_⟩
  rw [show ((b:Int)+1)=((b+1:Nat):Int) by lia,zc9]
  have ol:=Nat.le_trans (zm4 ps b) p2
  refine ⟨_,zex (by rw [<- List.length_append];exact Nat.le_trans ol (Nat.le_trans hn5 (by decide))),by show 1<=sizeLine;lia,_,zi9 (m1:=es) (m2 := [ps.take b++ps.drop (b+1)]) (by simp;lia),_,rfl,_,ztg (i:=2),q _ (fun pr hpr=>oneOk ⟨fun p hp=>?_,ol⟩ (fun y hy=>hy) pr (List.mem_of_mem_take hpr)) (by rw [List.length_take];exact Nat.min_le_left _ _)⟩
  rcases List.mem_append.mp hp with hp | hp
  ·exact p1 p (List.mem_of_mem_take hp)
  ·exact p1 p (List.mem_of_mem_drop hp)
 ·refine ⟨_,_,rfl,rfl,_,_,rfl,rfl,_,rfl,_,rfl,_,zv4 (i:=a+1),_,_,rfl,rfl,_,_,rfl,rfl,_,rfl,_,ztg (i:=a),_,zi9 (m1:=es.drop (a+1)) (m2:=es.take a) (by rw [List.length_drop,List.length_take];exact nr1 hn2),_,_,rfl,rfl,by show 1<=sizeLine;lia,_,zi9 (m1:=es.drop (a+1)++es.take a) (m2 := [ps]) (by rw [List.length_append,List.length_drop,List.length_take];exact nr2 hn2),q _ (oneOk ⟨p1,p2⟩ fun y hy=>?_) ?_⟩
  ·exact (List.mem_append.mp hy).elim List.mem_of_mem_drop List.mem_of_mem_take
  ·rw [List.length_append,List.length_append,List.length_drop,List.length_take,List.length_singleton]
   exact nr3 ha hn2
end
theorem parts_symm {es fs:List (List Pc)} {w:List Nat}:zay es fs w↔zay fs es w:=⟨fun h e=>h e.symm,fun h e=>h e.symm⟩
theorem zrg {es fs:List (List Pc)} {w:List Nat} (h:zbi (zay es fs) w):zbi (zay fs es) w:=⟨parts_symm.mp h.1,fun u hu=>h.2 u (parts_symm.mpr hu)⟩
theorem PtRes.symm {es fs:List (List Pc)} {d:PyData} (h:PtRes es fs d):PtRes fs es d:=by
 rcases h with ⟨e,h⟩ | ⟨w,e,h,a,b⟩
 ·exact .inl ⟨e,fun w p=>h w (parts_symm.mpr p)⟩
 ·exact .inr ⟨w,e,zrg h,a,b⟩
theorem PtRes.uniq {es fs:List (List Pc)} {d d':PyData} (h:PtRes es fs d) (h':PtRes es fs d'):d=d':=by
 rcases h with ⟨e,h⟩ | ⟨w,e,h,_⟩ <;> rcases h' with ⟨e',h'⟩ | ⟨w',e',h',_⟩
 ·rw [e,e']
 ·exact absurd h'.1 (h w')
 ·exact absurd h.1 (h' w)
 ·rw [e,e',zpz h h']
theorem PtRes.self {es:List (List Pc)} {d:PyData} (h:PtRes es es d):d = .none:=by
 rcases h with ⟨e,_⟩ | ⟨w,_,h,_⟩
 ·exact e
 ·exact absurd Iff.rfl h.1
theorem PtRes.repr {es fs:List (List Pc)} {d:PyData} (h:PtRes es fs d):∃ x,zg3 [d]=some (.o (.str x))/\PyData.strOk x=true:=by
 rcases h with ⟨rfl,_⟩ | ⟨w,rfl,_,hl,hn⟩
 ·have:=zvc
  exact zo4 this.lay this.sh (Nat.le_trans this.dep (by decide)) this.sho (Nat.le_trans this.bul (by decide))
 ·have:Nice 0 3000 (.str (tx w)):=zhn (zfr hl) (by rw [zci];exact hn)
  exact zo4 this.lay this.sh (Nat.le_trans this.dep (by decide)) this.sho (Nat.le_trans this.bul (by decide))
section
variable {P : Program} {w : World} {K : PySem.W.Frag} {mg : Str → Option Value} {base : Heap} {k : Nat}
noncomputable abbrev sLaw:Stmt:=top 29
theorem z4g:FnScope ["_law_script", "_law_pot_here", "_law_letters_here", "_law_pieces", "_law_one", "_law_other", "_law_due", "_law_first", "_law_last", "_law_found"] ["_law_script"] (zag sLaw):=⟨rfl,rfl,rfl,by decide +kernel,rfl,by decide +kernel,by decide +kernel⟩
theorem z0q (B:Blt mg) (zfy:Def3 P w K mg base 9 "parting" ["one", "other"] (spO K (fun _=>True) 2 zlw)) (d_law_pot:Def3 P w K mg base 1 "_law_pot" ["_law_script", "_law_base"] (zlh K)) (d_law_draw:zjd P w K mg base) (zdt:Def3 P w K mg base 2 "_law_letters" ["_law_pot_here", "_law_many"] (spD K IsPot 1 zhr)) (zbh:Def3 P w K mg base 4 "_law_expression" ["_law_pot_here", "_law_letters_here", "_law_most", "_law_pieces"] (spD K IsPot 3 zqd)) (zc3:Def3 P w K mg base 3 "_law_within" ["_law_one", "_law_other"] (spO K (fun _=>True) 2 zl2)) (zdu:Def3 P w K mg base 3 "_law_parting" ["_law_letters_here", "_law_one", "_law_other"] (spO K (fun _=>True) 3 zt3)) (ze7:Def3 P w K mg base 5 "_law_near" ["_law_pot_here", "_law_letters_here", "_law_expression_here", "_law_pieces"] (spD K IsPot 3 zwh)) {f₁:Addr} {fd₁:FuncData} (Fu:Fun K "law" "law" sLaw f₁ fd₁):FnOk P w K mg base CX0 10 f₁ fd₁ ["_law_script"] (zif K):=by
 refine zz5 (k:=9) Fu z4g rfl (fun f cdv A outer s H E C=>?_) (fun f cdv A outer s H E C=>?_)
 ·obtain ⟨fP,fdP,G,mP,kpP,bnP⟩:=d_law_pot.ex
  exact zb9 (i:=1) (of_decide_eq_true (by kernel_rfl)) rfl (by first | exact Or.inl rfl | exact Or.inr rfl) (zgx (k:=9) (G.mono (by decide)) (C.room ()) rfl mP kpP bnP .nil zli (zas (zak (i:=0) rfl (by first | exact Or.inl rfl | exact Or.inr (Or.inl rfl) | exact Or.inr (Or.inr rfl))) (zas zal za6)))
 ·have hO:∀ j:Addr × Addr,IsPot ((fun j:Addr × Addr=>zlg j.1 j.2) j):=fun j=>zv0 _ _
  refine ⟨_,(zae (zan 2 (zat 1 C zdt hO (zab (zaw C zaj (zat 1 C d_law_draw hO (zab zaj zac))) zac))) (zae (zan 3 (za2 C (zcb (zab zaj (zab zaj (zab zaj (zab zaj zac))))) (zat 1 C d_law_draw hO (zab zaj zac)))) (zae (zan 4 (zat 1 C zbh hO (zab (zaa 2) (zab zaj (zab (zaa 3) zac))))) (zae (zan 5 (zat 1 C ze7 hO (zab (zaa 2) (zab (zaa 4) (zab (zaa 3) zac))))) (zae (zan 6 (zap C zdu (fun _=>trivial) (zab (zaa 2) (zab (zaa 4) (zab (zaa 5) zac))))) (zae (zbt C (zcj (zcw C (za8 (zab (za8 (zab (zaa 4) (zab (zaa 5) zac))) (zab (za8 (zab (zaa 5) (zab (zaa 4) zac))) (zab (za8 (zab (zaa 4) (zab (zaa 4) zac))) (zab (za8 (zab (zaa 4) (zab (zaa 5) zac))) zac))))))) (zit (h:=1000) C (zby 7 (zby 8 zfv))) (zae (zan 9 (zap C zfy (fun _=>trivial) (zab (zaa 7) (zab (zaa 8) zac)))) (zah (s_if (t_eq C (zaa 7) (zaa 8)) (zah (s_if (zpd (zaa 9) zfp) (zah (zao e_bl)) za1)) (zah (s_if (t_ne C (zso C B (zab (zaa 9) zac)) (zso C B (zab (zaa 6) zac))) (zah (zao e_bl)) za1)))))) (zah (zao (e_eq C (e_is (zaa 6) zfp) (zwm (zap C zc3 (fun _=>trivial) (zab (zaa 4) (zab (zaa 5) zac))) (zww (zap C zc3 (fun _=>trivial) (zab (zaa 5) (zab (zaa 4) zac)))))))))))))),?_⟩
  have sz:=sizeLine_eq
  refine ⟨rfl,zdj rfl (by decide) (by decide) fun k1 hk1=>⟨_,rfl,rfl,_,rfl,by lia,by lia,fun ls hls hlow hris=>⟨rfl,?_⟩⟩⟩
  have hne:ls ≠ []:=fun e=>by rw [e] at hls;simp at hls;lia
  have hl3:ls.length<=3:=by lia
  refine ⟨by show 4<=sizeLine;lia,zdj rfl (by decide) (by decide) fun k2 hk2=>?_⟩
  obtain ⟨m,hm,hx⟩:∃ m:Nat,m<=5/\([.int 4,.int 4,.int 4,.int 5]:List PyData)[k2]? = some (.int (m:Nat)):=by
   match k2,hk2 with
   | 0,_=>exact ⟨4,by decide,rfl⟩
   | 1,_=>exact ⟨4,by decide,rfl⟩
   | 2,_=>exact ⟨4,by decide,rfl⟩
   | 3,_=>exact ⟨5,by decide,rfl⟩
   | n+4,h=>lia
  refine ⟨_,zyv hx,rfl,?_⟩
  refine ⟨rfl,_,_,rfl,rfl,_,_,rfl,rfl,rfl,ls,2,m,rfl,hlow,hne,by lia,by decide,by lia,fun es e1 e2=>⟨zcq es,?_⟩⟩
  refine ⟨rfl,_,_,rfl,rfl,_,_,rfl,rfl,_,_,rfl,rfl,rfl,ls,es,m,rfl,hlow,hne,hl3,hm,e1,e2,fun fs f1 f2=>⟨zcq fs,?_⟩⟩
  have rp:∀ {gs:List (List Pc)},(∀ pr ∈ gs,(∀ p ∈ pr,GPc ls p)/\pr.length<=m)->∀ p ∈ gs,RP p:=fun h pr hpr=>by
   obtain ⟨g1,g2⟩:=h pr hpr
   exact ⟨⟨fun p hp=>(g1 p hp).wf,by lia⟩,fun p hp=>hris.sublist (g1 p hp).sub⟩
  have rE:=rp e1
  have rF:=rp f1
  have wE:∀ p ∈ es,WfPr p:=fun p hp=>(rE p hp).wf
  have wF:∀ p ∈ fs,WfPr p:=fun p hp=>(rF p hp).wf
  have mk:∀ {a b:List (List Pc)},(∀ pr ∈ a,(∀ p ∈ pr,GPc ls p)/\pr.length<=m)->(∀ pr ∈ b,(∀ p ∈ pr,GPc ls p)/\pr.length<=m)->a.length<=2->b.length<=2->PtIn a b:=fun h1 h2 n1 n2=>⟨rp h1,rp h2,n1,n2,fun e he=>Nat.le_trans (h1 e he).2 hm,fun e he=>Nat.le_trans (h2 e he).2 hm,fun e he x hx=>Nat.le_trans ((h1 e he).1 x hx).sub.length_le hl3,fun e he x hx=>Nat.le_trans ((h2 e he).1 x hx).sub.length_le hl3⟩
  have eqE:∀ {a b:List (List Pc)},(∀ pr ∈ a,(∀ p ∈ pr,GPc ls p)/\pr.length<=m)->(∀ pr ∈ b,(∀ p ∈ pr,GPc ls p)/\pr.length<=m)->a.length<=2->b.length<=2->eqF false (encE a) (encE b)=some (.o (.bool (decide (a=b)))):=fun h1 h2 n1 n2=>zsx (neg:=false) zfi (zcv (fun p hp=>(rp h1 p hp).wf) n1) (zcv (fun p hp=>(rp h2 p hp).wf) n2)
  have eT:∀ a:Bool,eqF false (.bool a) (.bool a)=some (.o (.bool true)):=fun a=>by rw [zl1];simp
  refine ⟨_,_,rfl,rfl,_,_,rfl,rfl,_,_,rfl,rfl,rfl,ls,es,fs,rfl,hlow,by lia,hris,fun p hp x hx c hc=>?_,mk e1 f1 e2 f2,fun d6 h6=>⟨by rcases h6 with ⟨rfl,_⟩ | ⟨w,rfl,_⟩ <;> rfl,?_⟩⟩
  ·rcases List.mem_append.mp hp with h | h
   ·exact ((e1 p h).1 x hx).sub.subset hc
   ·exact ((f1 p h).1 x hx).sub.subset hc
  dsimp only
  refine zdb (fun ρ=>∃ o7 o8 o9:Option DV,ρ = [none,some .ob,some (.im (.str (tx ls))),some (.im (.int (m:Nat))),some (.im (encE es)),some (.im (encE fs)),some (.im d6),o7,o8,o9]) (fun N hN=>?_) fun ρ zz=>?_
  ·have s2:2<=sizeLine:=by lia
   refine ⟨_,_,rfl,rfl,_,_,rfl,rfl,s2,_,_,rfl,rfl,_,_,rfl,rfl,s2,_,_,rfl,rfl,_,_,rfl,rfl,s2,_,_,rfl,rfl,_,_,rfl,rfl,s2,by show 4<=sizeLine;lia,_,rfl,rfl,?_⟩
   refine zau (fun j ρ=>∃ o7 o8 o9:Option DV,ρ = [none,some .ob,some (.im (.str (tx ls))),some (.im (.int (m:Nat))),some (.im (encE es)),some (.im (encE fs)),some (.im d6),o7,o8,o9]) ⟨_,_,_,rfl⟩ (fun ρ h=>hN ρ h) fun j d ρ N hd hN zz=>?_
   obtain ⟨o7,o8,o9,e⟩:=zz
   subst e
   obtain ⟨f,l,rfl,hf,hl,hfl⟩:∃ f l:List (List Pc),d = .tuple [encE f,encE l]/\(f=es\/f=fs)/\(l=es\/l=fs)/\((f=es/\l=fs)\/(f=fs/\l=es)\/f=l):=by
    match j,hd with
    | 0,hd=>cases hd;exact ⟨es,fs,rfl,.inl rfl,.inr rfl,.inl ⟨rfl,rfl⟩⟩
    | 1,hd=>cases hd;exact ⟨fs,es,rfl,.inr rfl,.inl rfl,.inr (.inl ⟨rfl,rfl⟩)⟩
    | 2,hd=>cases hd;exact ⟨es,es,rfl,.inl rfl,.inl rfl,.inr (.inr rfl)⟩
    | 3,hd=>cases hd;exact ⟨es,fs,rfl,.inl rfl,.inr rfl,.inl ⟨rfl,rfl⟩⟩
    | n+4,hd=>cases hd
   have gf:(∀ pr ∈ f,(∀ p ∈ pr,GPc ls p)/\pr.length<=m)/\f.length<=2:=by rcases hf with rfl | rfl; (· exact ⟨e1,e2⟩); (· exact ⟨f1,f2⟩)
   have gl:(∀ pr ∈ l,(∀ p ∈ pr,GPc ls p)/\pr.length<=m)/\l.length<=2:=by rcases hl with rfl | rfl; (· exact ⟨e1,e2⟩); (· exact ⟨f1,f2⟩)
   refine ⟨by show (flat (encE f) && (flat (encE l) && true))=true;rw [zcq,zcq];rfl,_,rfl,?_⟩
   refine ⟨_,_,rfl,rfl,_,_,rfl,rfl,rfl,f,l,rfl,mk gf.1 gl.1 gf.2 gl.2,fun d9 h9=>⟨by rcases h9 with ⟨rfl,_⟩ | ⟨w,rfl,_⟩ <;> rfl,?_⟩⟩
   refine ⟨_,_,rfl,rfl,_,_,rfl,rfl,_,eqE gf.1 gl.1 gf.2 gl.2,_,rfl,?_⟩
   by_cases efl:f=l
   ·rw [decide_eq_true efl]
    subst efl
    have:=h9.self
    subst this
    exact iteT ⟨_,_,rfl,rfl,rfl,_,rfl,iteF (hN _ ⟨_,_,_,rfl⟩)⟩
   ·rw [decide_eq_false efl]
    have e96:d9=d6:=by
     rcases hfl with ⟨rfl,rfl⟩ | ⟨rfl,rfl⟩ | z
     ·exact h9.uniq h6
     ·exact h9.symm.uniq h6
     ·exact absurd z efl
    subst e96
    obtain ⟨x,hx,ok⟩:=h6.repr
    have ee:eqF true (.str x) (.str x)=some (.o (.bool false)):=by rw [zcu ok ok];simp
    exact iteF ⟨_,_,rfl,rfl,_,hx,_,_,rfl,rfl,_,hx,_,ee,_,rfl,iteF (hN _ ⟨_,_,_,rfl⟩)⟩
  ·obtain ⟨o7,o8,o9,e⟩:=zz
   subst e
   refine ⟨_,_,rfl,rfl,rfl,zxm (fun Q' q=>⟨_,_,rfl,rfl,_,_,rfl,rfl,rfl,es,fs,rfl,wE,wF,by lia,q⟩) (fun Q' q=>⟨_,_,rfl,rfl,_,_,rfl,rfl,rfl,fs,es,rfl,wF,wE,by lia,q⟩) ?_⟩
   have bs:(inE es fs && inE fs es)=true↔∀ w,¬ zay es fs w:=by
    rw [Bool.and_eq_true,zta rE rF,zta rF rE]
    exact ⟨fun ⟨a,b⟩ w p=>p ⟨a w,b w⟩,fun h=>⟨fun w a=>(Classical.byContradiction fun z=>h w fun e=>z (e.mp a)),fun w a=>(Classical.byContradiction fun z=>h w fun e=>z (e.mpr a))⟩⟩
   rcases h6 with ⟨rfl,h⟩ | ⟨w,rfl,h,_⟩
   ·rw [bs.mpr h]
    exact ⟨_,eT true,rfl⟩
   ·rw [Bool.eq_false_iff.mpr fun z=>bs.mp z w h.1]
    exact ⟨_,eT false,rfl⟩
end
end L23
namespace L23
open PySem PySem.Spec
open PyProof.Rows hiding St
open L2 L3
noncomputable def DIn (K:PySem.W.Frag) (x:Str) (st:Stmt):Prop:=∃ (f:Addr) (od an:Option Addr) (sl:Array (Option Value)) (oc kV dc pm cd ct:Value),PySem.W.nsIn K mainGlobals x=some (some (.ref f))/\K.lookup f=some ⟨oc,od,.func (PySem.W.fnOf x x (zcd st) (zbg st) (zag st) .none kV dc pm an cd ct),sl⟩/\PySem.W.codeIn K cd x=true/\PySem.W.keepIn K (.ref f)=true
theorem din_mk {K:PySem.W.Frag} {x:Str} {st:Stmt} {f:Addr} {od an:Option Addr} {sl:Array (Option Value)} {oc kV dc pm cd ct:Value} (a:PySem.W.nsIn K mainGlobals x=some (some (.ref f))) (l:K.lookup f=some ⟨oc,od,.func (PySem.W.fnOf x x (zcd st) (zbg st) (zag st) .none kV dc pm an cd ct),sl⟩) (c:PySem.W.codeIn K cd x=true) (k:PySem.W.keepIn K (.ref f)=true):DIn K x st:=⟨f,od,an,sl,oc,kV,dc,pm,cd,ct,a,l,c,k⟩
theorem zam {K:PySem.W.Frag} {x:Str} {st:Stmt} {h:Heap} {mg:Str->Option Value} (X:K.In h) (G:h.Ns mainGlobals mg) (D:DIn K x st):Top3 K mg x st:=by obtain ⟨f,_,_,_,_,_,_,_,_,_,a,l,c,k⟩:=D;exact ⟨f,_,zsw (st:=st) l c k,PySem.W.mg_of X G a⟩
theorem all_mk {l:PySem.W.OpenLaw} {w:World} {K:PySem.W.Frag} {h:Heap} {mg:Str->Option Value} {fa:Addr} (X:K.In h) (G:h.Ns mainGlobals mg) (hfa:mg "law" = some (.ref fa))
 (D1:DIn K "covers" zjy)
 (D2:DIn K "piece_within" zd6)
 (D3:DIn K "place_behind" zed)
 (D4:DIn K "product_within" zc8)
 (D5:DIn K "plain_product" zdv)
 (D6:DIn K "is_within_another" zcm)
 (D7:DIn K "plain_products" zc5)
 (D8:DIn K "plain" zng)
 (D9:DIn K "ends_behind" zes)
 (D10:DIn K "expression_behind" zcg)
 (D11:DIn K "letters_in" zfc)
 (D12:DIn K "parting" zho)
 (D13:DIn K "_law_pot" sPot)
 (D14:DIn K "_law_draw" zp5)
 (D15:DIn K "_law_letters" zh0)
 (D16:DIn K "_law_piece" zjq)
 (D17:DIn K "_law_product" zge)
 (D18:DIn K "_law_expression" zef)
 (D19:DIn K "_law_has" zq8)
 (D20:DIn K "_law_one_has" zht)
 (D21:DIn K "_law_full" zm2)
 (D22:DIn K "_law_under" zjr)
 (D23:DIn K "_law_within" zhm)
 (D24:DIn K "_law_places" zhx)
 (D25:DIn K "_law_parting" zfw)
 (D26:DIn K "_law_near" zma)
 (D27:DIn K "law" sLaw)
 (z1:PySem.W.nsIn K mainGlobals "len" = some none)
 (z2:PySem.W.nsIn K mainGlobals "all" = some none)
 (z3:PySem.W.nsIn K mainGlobals "any" = some none)
 (z4:PySem.W.nsIn K mainGlobals "sorted" = some none)
 (z5:PySem.W.nsIn K mainGlobals "min" = some none)
 (z6:PySem.W.nsIn K mainGlobals "max" = some none)
 (z7:PySem.W.nsIn K mainGlobals "repr" = some none)
 (z8:PySem.W.nsIn K mainGlobals "int" = some none)
 (z9:PySem.W.nsIn K mainGlobals "list" = some none)
 (z10:PySem.W.nsIn K mainGlobals "tuple" = some none)
 (z11:PySem.W.nsIn K mainGlobals "range" = some none)
 (z12:PySem.W.nsIn K mainGlobals "set" = some none)
 (z13:PySem.W.nsIn K mainGlobals "isinstance" = some none)
 (z14:PySem.W.nsIn K mainGlobals "enumerate" = some none)
 (z15:PySem.W.nsIn K mainGlobals "zip" = some none)
 (z16:PySem.W.nsIn K mainGlobals "reversed" = some none)
 (z17:PySem.W.nsIn K mainGlobals "str" = some none)
 (z18:PySem.W.nsIn K mainGlobals "sum" = some none)
 (z19:PySem.W.nsIn K mainGlobals "dict" = some none)
 : ∃ fd:FuncData,(∀ (s:Shared) (v:Value),BindsTo s fd ⟨[v],[]⟩ [("_law_script", v)])/\∀ base:Heap,K.In base->base.Ns mainGlobals mg->FnOk l.prog w K mg base CX0 10 fa fd ["_law_script"] (zif K):=by
 have T1:=zam X G D1
 have T2:=zam X G D2
 have T3:=zam X G D3
 have T4:=zam X G D4
 have T5:=zam X G D5
 have T6:=zam X G D6
 have T7:=zam X G D7
 have T8:=zam X G D8
 have T9:=zam X G D9
 have T10:=zam X G D10
 have T11:=zam X G D11
 have T12:=zam X G D12
 have T13:=zam X G D13
 have T14:=zam X G D14
 have T15:=zam X G D15
 have T16:=zam X G D16
 have T17:=zam X G D17
 have T18:=zam X G D18
 have T19:=zam X G D19
 have T20:=zam X G D20
 have T21:=zam X G D21
 have T22:=zam X G D22
 have T23:=zam X G D23
 have T24:=zam X G D24
 have T25:=zam X G D25
 have T26:=zam X G D26
 have T27:=zam X G D27
 have B:Blt mg:=⟨PySem.W.mg_none_of X G z1,PySem.W.mg_none_of X G z2,PySem.W.mg_none_of X G z3,PySem.W.mg_none_of X G z4,PySem.W.mg_none_of X G z5,PySem.W.mg_none_of X G z6,PySem.W.mg_none_of X G z7,PySem.W.mg_none_of X G z8,PySem.W.mg_none_of X G z9,PySem.W.mg_none_of X G z10,PySem.W.mg_none_of X G z11,PySem.W.mg_none_of X G z12,PySem.W.mg_none_of X G z13,PySem.W.mg_none_of X G z14,PySem.W.mg_none_of X G z15,PySem.W.mg_none_of X G z16,PySem.W.mg_none_of X G z17,PySem.W.mg_none_of X G z18,PySem.W.mg_none_of X G z19⟩
 obtain ⟨f27,od27,an27,sl27,oc27,kV27,dc27,pm27,cd27,ct27,a27,l27,c27,k27⟩:=D27
 have e:=hfa.symm.trans (PySem.W.mg_of X G a27)
 cases e
 refine ⟨PySem.W.fnOf "law" "law" (zcd sLaw) (zbg sLaw) (zag sLaw) .none kV27 dc27 pm27 an27 cd27 ct27,fun s v => .of_eq rfl,fun base _ _=>?_⟩
 have e1:=zc7 (P:=l.prog) (w:=w) (base:=base) B T1
 have e2:=zdc B e1 T2
 have e3:=zbz B e2 T3
 have e4:=zco B e3 T4
 have e5:=zcz B e1 T5
 have e6:=zb6 B e4 T6
 have e7:=zcn B e5 e6 T7
 have e8:=zd4 B e7 T8
 have e9:=zdr B e3 T9
 have e10:=zbj B e8 e9 T10
 have e11:=zea (P:=l.prog) (w:=w) (base:=base) B T11
 have e12:=zfy B e8 e10 e11 T12
 have e13:=d_law_pot (P:=l.prog) (w:=w) (base:=base) B T13
 have e14:=d_law_draw (P:=l.prog) (w:=w) (base:=base) B T14
 have e15:=zdt B e14 T15
 have e16:=zbs B e14 T16
 have e17:=zds B e14 e16 T17
 have e18:=zbh B e14 e16 e17 T18
 have e19:=zdl (P:=l.prog) (w:=w) (base:=base) B T19
 have e20:=zck B e19 T20
 have e21:=ze8 (P:=l.prog) (w:=w) (base:=base) B T21
 have e22:=zet B e19 e21 T22
 have e23:=zc3 B e22 T23
 have e24:=zd8 (P:=l.prog) (w:=w) (base:=base) B T24
 have e25:=zdu B e20 e24 T25
 have e26:=ze7 B e14 e16 e18 T26
 exact z0q B e12 e13 e14 e15 e18 e23 e25 e26 (zsw (st:=sLaw) l27 c27 k27)
theorem walk {l:PySem.W.OpenLaw} {q:Program} {loose:List Str} {XP:(Str->Option Value)->Heap->Prop} {YP:World->Heap->Prop} {d:DefRec} {K:Params->PySem.W.Frag} (hn:l.most=some 63) (hdf:d.params.defaults = [])
 (hY:∀ (w:World) (h:Heap),YP w h->(K w.params).In h)
 (F:∀ (w:World) (mg:Str->Option Value) (fa:Addr) (h:Heap),(K w.params).In h->h.Ns mainGlobals mg->mg d.name=some (.ref fa) ->
  ∃ fd:FuncData,(∀ (s:Shared) (u:Value),BindsTo s fd ⟨[u],[]⟩ [("_law_script", u)])/\∀ base:Heap,(K w.params).In base->base.Ns mainGlobals mg->FnOk l.prog w (K w.params) mg base CX0 10 fa fd ["_law_script"] (zif (K w.params))) :
 PySem.W.WalkO q loose XP YP l.row.toRowW d [] (fun f vs=>PySem.call f vs) :=
 L2.walk_of (n:=63) (k:=10) (x := "_law_script") (CX:=fun _=>CX0) (sp:=fun w=>zif (K w.params)) hn (by decide) hdf ⟨rfl,by decide,by decide,rfl⟩ hY F (fun _ _ a ns hl _ hS=>⟨a,ns,rfl,hS,hl,fun _=>rfl⟩) fun _ _ _ _ _ z=>z
end L23
open PySem PySem.W PyProof.Rows
set_option maxRecDepth 100000 in
set_option maxHeartbeats 0 in
theorem PySem.Challenge.cw_lostpost_k23_words_that_part_holds : PySem.Challenge.rw_lostpost_k23_words_that_part.Holds := by
 w_on;o_law;k_head; (case hw=>w_witness2)
 k_fill
 refine L23.walk (l:=PySem.Challenge.rw_lostpost_k23_words_that_part) rfl rfl (fun w h Y=>PySem.W.kIn_of Y) ?F
 case F =>
  intro w mg fa h KX G hmg
  refine' L23.all_mk KX G hmg (L23.din_mk ?a1 ?l1 ?c1 ?k1) (L23.din_mk ?a2 ?l2 ?c2 ?k2) (L23.din_mk ?a3 ?l3 ?c3 ?k3) (L23.din_mk ?a4 ?l4 ?c4 ?k4) (L23.din_mk ?a5 ?l5 ?c5 ?k5) (L23.din_mk ?a6 ?l6 ?c6 ?k6) (L23.din_mk ?a7 ?l7 ?c7 ?k7) (L23.din_mk ?a8 ?l8 ?c8 ?k8) (L23.din_mk ?a9 ?l9 ?c9 ?k9) (L23.din_mk ?a10 ?l10 ?c10 ?k10) (L23.din_mk ?a11 ?l11 ?c11 ?k11) (L23.din_mk ?a12 ?l12 ?c12 ?k12) (L23.din_mk ?a13 ?l13 ?c13 ?k13) (L23.din_mk ?a14 ?l14 ?c14 ?k14) (L23.din_mk ?a15 ?l15 ?c15 ?k15) (L23.din_mk ?a16 ?l16 ?c16 ?k16) (L23.din_mk ?a17 ?l17 ?c17 ?k17) (L23.din_mk ?a18 ?l18 ?c18 ?k18) (L23.din_mk ?a19 ?l19 ?c19 ?k19) (L23.din_mk ?a20 ?l20 ?c20 ?k20) (L23.din_mk ?a21 ?l21 ?c21 ?k21) (L23.din_mk ?a22 ?l22 ?c22 ?k22) (L23.din_mk ?a23 ?l23 ?c23 ?k23) (L23.din_mk ?a24 ?l24 ?c24 ?k24) (L23.din_mk ?a25 ?l25 ?c25 ?k25) (L23.din_mk ?a26 ?l26 ?c26 ?k26) (L23.din_mk ?a27 ?l27 ?c27 ?k27) ?z1 ?z2 ?z3 ?z4 ?z5 ?z6 ?z7 ?z8 ?z9 ?z10 ?z11 ?z12 ?z13 ?z14 ?z15 ?z16 ?z17 ?z18 ?z19
  (case a1=>k_is); (case l1=>k_is); (case c1=>k_is); (case k1=>k_is)
  (case a2=>k_is); (case l2=>k_is); (case c2=>k_is); (case k2=>k_is)
  (case a3=>k_is); (case l3=>k_is); (case c3=>k_is); (case k3=>k_is)
  (case a4=>k_is); (case l4=>k_is); (case c4=>k_is); (case k4=>k_is)
  (case a5=>k_is); (case l5=>k_is); (case c5=>k_is); (case k5=>k_is)
  (case a6=>k_is); (case l6=>k_is); (case c6=>k_is); (case k6=>k_is)
  (case a7=>k_is); (case l7=>k_is); (case c7=>k_is); (case k7=>k_is)
  (case a8=>k_is); (case l8=>k_is); (case c8=>k_is); (case k8=>k_is)
  (case a9=>k_is); (case l9=>k_is); (case c9=>k_is); (case k9=>k_is)
  (case a10=>k_is); (case l10=>k_is); (case c10=>k_is); (case k10=>k_is)
  (case a11=>k_is); (case l11=>k_is); (case c11=>k_is); (case k11=>k_is)
  (case a12=>k_is); (case l12=>k_is); (case c12=>k_is); (case k12=>k_is)
  (case a13=>k_is); (case l13=>k_is); (case c13=>k_is); (case k13=>k_is)
  (case a14=>k_is); (case l14=>k_is); (case c14=>k_is); (case k14=>k_is)
  (case a15=>k_is); (case l15=>k_is); (case c15=>k_is); (case k15=>k_is)
  (case a16=>k_is); (case l16=>k_is); (case c16=>k_is); (case k16=>k_is)
  (case a17=>k_is); (case l17=>k_is); (case c17=>k_is); (case k17=>k_is)
  (case a18=>k_is); (case l18=>k_is); (case c18=>k_is); (case k18=>k_is)
  (case a19=>k_is); (case l19=>k_is); (case c19=>k_is); (case k19=>k_is)
  (case a20=>k_is); (case l20=>k_is); (case c20=>k_is); (case k20=>k_is)
  (case a21=>k_is); (case l21=>k_is); (case c21=>k_is); (case k21=>k_is)
  (case a22=>k_is); (case l22=>k_is); (case c22=>k_is); (case k22=>k_is)
  (case a23=>k_is); (case l23=>k_is); (case c23=>k_is); (case k23=>k_is)
  (case a24=>k_is); (case l24=>k_is); (case c24=>k_is); (case k24=>k_is)
  (case a25=>k_is); (case l25=>k_is); (case c25=>k_is); (case k25=>k_is)
  (case a26=>k_is); (case l26=>k_is); (case c26=>k_is); (case k26=>k_is)
  (case a27=>k_is); (case l27=>k_is); (case c27=>k_is); (case k27=>k_is)
  (case z1=>k_is)
  (case z2=>k_is)
  (case z3=>k_is)
  (case z4=>k_is)
  (case z5=>k_is)
  (case z6=>k_is)
  (case z7=>k_is)
  (case z8=>k_is)
  (case z9=>k_is)
  (case z10=>k_is)
  (case z11=>k_is)
  (case z12=>k_is)
  (case z13=>k_is)
  (case z14=>k_is)
  (case z15=>k_is)
  (case z16=>k_is)
  (case z17=>k_is)
  (case z18=>k_is)
  (case z19=>k_is)

