import PyProof.Rows.All
import Wide.All
import OpenK.AllK
import Wide.FinOn
import Lean
import PyProof.EqAt
import PyProof.EqKinds
import PyProof.TupleCall
import PyProof.StationsW
import PyProof.ExcClass2
import PyProof.ExcBaseAll.ValueError
import PyProof.InstStoreFacts
import PyProof.RulesAs
import PyProof.NsDelKeeps
import PyProof.P3Eq
import PyProof.P3In
import PyProof.ReprRoads
import PyProof.StrWalks
import PyProof.ListRange
import PyProof.ListStr
import PyProof.ConsumeWalk
import PyProof.MinMaxWalk
import PyProof.NeData
import PyProof.SliceStr2
import PyProof.Rows.SortStr
import PyProof.Rows.StrJoin2
import PyProof.Rows.SeqMore
import PyProof.SeqI3
import PyProof.StrLawsIn
import PyProof.ReprBulk
import PyProof.ListMulRoad
import PyProof.StrOps2
import PySem.Challenge.RW_lostpost_k70_whole_sayings_put_together
import PyProof.ExcAttrAll.ValueError
import PyProof.ExcArgs
import KE.KIsAll
import PyProof.Rows.SortShellK
import KE.KSortTup
import PyProof.Rows.SetFrom
import PyProof.CollectIter
import PyProof.CollectStr
import PyProof.FactsAll.set
import PyProof.Rows.StrStrike
import KE.KDictOf
import PyProof.AttrMissHeap
import PyProof.DictWalks
import KE.KDictLaws
import PyProof.Draws
import KE.KRevIter
import PyProof.EnumStmt
import PyProof.JoinWalk
import KE.BitLaws
import PyProof.TupleOfSeq
import PySem.SetTable
import PyProof.SetScanFacts
import PyProof.TupleKey
import PyProof.IsRules
import PyProof.StrCalls6
import PyProof.StrLawsReplace
import PyProof.ToksMono
set_option hygiene false
set_option compiler.extract_closed false
local macro_rules|`(0.0)=>`(by lia)
local macro_rules|`(0.1)=>`(Str->Option GE)
local macro_rules|`(0.2)=>`(by decide +kernel)
local macro_rules|`(0.3)=>`(by simp)
local macro_rules|`(0.4)=>`(by decide)
local macro_rules|`(0.5)=>`(model X.prog X.w)
local macro_rules|`(0.6)=>`(Inv X pins σ H s)
local macro_rules|`(0.7)=>`(List Nat)
local macro_rules|`(0.8)=>`(Ctx3 P w K mg base k X)
local macro_rules|`(0.9)=>`(by first|exact Or.inl rfl|exact Or.inr (Or.inl rfl)|exact Or.inr (Or.inr rfl))
local macro_rules|`(1.0)=>`(⟨rfl,rfl,rfl,by decide +kernel,rfl,by decide +kernel,by decide +kernel⟩)
local macro_rules|`(1.1)=>`(List (Addr×Obj))
local macro_rules|`(1.2)=>`(List Nat)
local macro_rules|`(1.3)=>`(model prog w)
local macro_rules|`(1.4)=>`(λ_=>True)
local macro_rules|`(1.5)=>`((x == ("__debug__" : Str))=false)
local macro_rules|`(1.6)=>`(E3 K X O a fa)
local macro_rules|`(1.7)=>`(GE->GH->Prop)
local macro_rules|`(1.8)=>`(.Name x px)
local macro_rules|`(1.9)=>`(by kernel_rfl)
local macro_rules|`(2.0)=>`(R->Prop)
local macro_rules|`(2.1)=>`(λ_=>trivial)
local macro_rules|`(2.2)=>`(.refl _ _)
local macro_rules|`(2.3)=>`(.lst xs)
local macro_rules|`(2.4)=>`(List Str)
local macro_rules|`(2.5)=>`(model P w)
local macro_rules|`(2.6)=>`(zaa 0)
local macro_rules|`(2.7)=>`(.ref s.heap.objs.size)
local macro_rules|`(2.8)=>`(List GE)
local macro_rules|`(2.9)=>`(List 1.2)
local macro_rules|`(3.0)=>`(.ref a)
local macro_rules|`(3.1)=>`(∀i,(X i).N[n]? = some x)
local macro_rules|`(3.2)=>`(zaa 2)
local macro_rules|`(3.3)=>`(s.heap.objs.size+1)
local macro_rules|`(3.4)=>`(lO #[] 0)
local macro_rules|`(3.5)=>`({ s with heap:=h',toks:=tk })
local macro_rules|`(3.6)=>`(.ref C)
local macro_rules|`(3.7)=>`(E3 K X O b fb)
local macro_rules|`(3.8)=>`(λ_ f=>f)
local macro_rules|`(3.9)=>`({ s with heap:=h' })
local macro_rules|`(4.0)=>`(if([]:List Td).isEmpty then 0 else 1)
local macro_rules|`(4.1)=>`(⟨rfl,?_⟩)
local macro_rules|`(4.2)=>`((false,eval a (X i).env))
local macro_rules|`(4.3)=>`(λ_ _ _ _ _ _ us hl=>len2 hl λ_ _=>rfl)
local macro_rules|`(4.4)=>`((apos.endLine == cpos.line)=true)
local macro_rules|`(4.5)=>`(zaa 3)
local macro_rules|`(4.6)=>`(Option Addr)
local macro_rules|`(4.7)=>`(λ_ _ _ _ _ _ us hl=>len3 hl λ_ _ _=>rfl)
local macro_rules|`(4.8)=>`(zaa 1)
local macro_rules|`(4.9)=>`(s1.trans s2)
local macro_rules|`(5.0)=>`(by simp;lia)
local macro_rules|`(5.1)=>`(ED K O t f)
local macro_rules|`(5.2)=>`(.dK kvs)
local macro_rules|`(5.3)=>`(seqObj "list" vs.toArray 0)
local macro_rules|`(5.4)=>`(List V)
local macro_rules|`(5.5)=>`(unM O)
local macro_rules|`(5.6)=>`(Rep K O H₀ A H σ ρ)
local macro_rules|`(5.7)=>`(∀i,(X i).fn x=true\/(X i).env.scope.names.lookup x=some .local)
local macro_rules|`(5.8)=>`(t.drop a)
local macro_rules|`(5.9)=>`(he pins s σ H _ I h)
local macro_rules|`(6.0)=>`(Nat->Addr->Prop)
local macro_rules|`(6.1)=>`(by first|exact Or.inl rfl|exact Or.inr rfl)
local macro_rules|`(6.2)=>`(.ref it)
local macro_rules|`(6.3)=>`(zaj (i:=0) rfl 0.9)
local macro_rules|`(6.4)=>`((x == ("__classdict__" : Str))=false)
local macro_rules|`(6.5)=>`(List α)
local macro_rules|`(6.6)=>`((false,eval e X.env))
local macro_rules|`(6.7)=>`(.lst ys)
local macro_rules|`(6.8)=>`(List GF->2.0->Prop)
local macro_rules|`(6.9)=>`(some (.own ds))
local macro_rules|`(7.0)=>`(EP X pins σ Q)
local macro_rules|`(7.1)=>`(Blt mg)
local macro_rules|`(7.2)=>`(zag st)
local macro_rules|`(7.3)=>`(A.handled=none)
local macro_rules|`(7.4)=>`(λx=>x.1.isSome)
local macro_rules|`(7.5)=>`(zab 3.2 zad)
local macro_rules|`(7.6)=>`(Addr->Prop)
local macro_rules|`(7.7)=>`(unO O A)
local macro_rules|`(7.8)=>`(.inl rfl)
local macro_rules|`(7.9)=>`(seqObj "list" #[] 0)
local macro_rules|`(8.0)=>`(λ_ _ _ _ _ _ us hl=>len1 hl λ_=>rfl)
local macro_rules|`(8.1)=>`(ha pins s σ H _ I h)
local macro_rules|`(8.2)=>`(ScopeOk h N' X.N scope X.env.scope)
local macro_rules|`(8.3)=>`(Or.inr rfl)
local macro_rules|`(8.4)=>`(Or.inl rfl)
local macro_rules|`(8.5)=>`(rI (λ_ j=>0<j) λi j=>.int (i % j))
local macro_rules|`(8.6)=>`(List Expr)
local macro_rules|`(8.7)=>`({ s with heap:=s.heap.push 3.4 })
local macro_rules|`(8.8)=>`(.Name "reversed" p1)
local macro_rules|`(8.9)=>`(⟨fa,by rw[zac λz=>fa (.inr z)];exact qa⟩)
local macro_rules|`(9.0)=>`(by simpa using e)
local macro_rules|`(9.1)=>`(.ref f)
local macro_rules|`(9.2)=>`(zaa 5)
local macro_rules|`(9.3)=>`(zaa 4)
local macro_rules|`(9.4)=>`(∀i,Vis (X i).env.scope x)
local macro_rules|`(9.5)=>`(List GF)
local macro_rules|`(9.6)=>`(∀i,Loc (X i).env.scope x)
local macro_rules|`(9.7)=>`(∀i,GI [a] (X i).env=4.2::GI [] (X i).env)
local macro_rules|`(9.8)=>`(.Name y py)
local macro_rules|`(9.9)=>`(λz=>nomatch z)
local macro_rules|`(0e0)=>`((y == ("__debug__" : Str))=false)
local macro_rules|`(0e1)=>`(ι->Cx)
local macro_rules|`(0e2)=>`(.str x)
local macro_rules|`(0e3)=>`(.ListComp elt [⟨tg,iter,ifs,0⟩] scope pos)
local macro_rules|`(0e4)=>`(.builtin "object.__class__")
local macro_rules|`(0e5)=>`(List (Key×V))
local macro_rules|`(0e6)=>`(GG ?_)
local macro_rules|`(0e7)=>`(∀i,(X i).N.Nodup)
local macro_rules|`(0e8)=>`(.im (.int (n:Nat)))
local macro_rules|`(0e9)=>`(λcdv A outer s H vs Q E hr h=>?_)
local macro_rules|`(1e0)=>`(mixKind P w)
local macro_rules|`(1e1)=>`(⟨f,by rw[zac (show b≠a from λw=>f.2 i (by rw[w];exact ha))];exact q⟩)
local macro_rules|`(1e2)=>`(.int i)
local macro_rules|`(1e3)=>`(I.ok.hd hc)
local macro_rules|`(1e4)=>`((false,eval b (X i).env))
local macro_rules|`(1e5)=>`(κ->Ob)
local macro_rules|`(1e6)=>`(Option DV)
local macro_rules|`(1e7)=>`(by simpa using hi)
local macro_rules|`(1e8)=>`(α->α->Bool)
local macro_rules|`(1e9)=>`(X.fn x=true\/X.env.scope.names.lookup x=some .local)
local macro_rules|`(2e0)=>`((y == ("__classdict__" : Str))=false)
local macro_rules|`(2e1)=>`(.tuple ds)
local macro_rules|`(2e2)=>`((Qn h none++ρ).set i (some (.im (enc a))))
local macro_rules|`(2e3)=>`({ s with heap:=h',toks:=t' })
local macro_rules|`(2e4)=>`(zbw X scope N' C s H ex)
local macro_rules|`(2e5)=>`(⟨us,[]⟩)
local macro_rules|`(2e6)=>`(TupStay.refl _)
local macro_rules|`(2e7)=>`(λ_ _=>False)
local macro_rules|`(2e8)=>`(List (Str×Str))
local macro_rules|`(2e9)=>`(List (Str×Int))
local macro_rules|`(3e0)=>`(Array (Option GE))
local macro_rules|`(3e1)=>`(zab zak zad)
local macro_rules|`(3e2)=>`(.im (tW ws))
local macro_rules|`(3e3)=>`(rI CMul λi j=>.int (i * j))
local macro_rules|`(3e4)=>`(Option Int)
local macro_rules|`(3e5)=>`(∀i,((Tg cpos (GI [b] (X i).env)).all (λx=>!x.1) && (TC cpos (Ti [] (X i).env)).all 7.4 && decide (([b]:List Expr).length+([]:List Td).length+4.0<30))=true)
local macro_rules|`(3e6)=>`(some v)
local macro_rules|`(3e7)=>`(zat C 2.6 zai)
local macro_rules|`(3e8)=>`(∀r,Qr r->∀v H',Stp O H H'->Out K O H H' v r->Q v H')
local macro_rules|`(3e9)=>`(List Addr)
local macro_rules|`(4e0)=>`(za4 0 C d_law_draw hO (zab zai zad))
local macro_rules|`(4e1)=>`(zek prog w A s kd a₀ blt k)
local macro_rules|`(4e2)=>`(zdt (zd0 hr) 6.3 zbk (λ_ _=>rfl))
local macro_rules|`(4e3)=>`(upd H2 s2.heap.objs.size (.lst []))
local macro_rules|`(4e4)=>`(seqObj "list" #[] ea)
local macro_rules|`(4e5)=>`(o2.ahead S.ok S.p s1)
local macro_rules|`(4e6)=>`(if w = [] then[46] else w)
local macro_rules|`(4e7)=>`(λ_=>.of rfl 1.9)
local macro_rules|`(4e8)=>`(env::outer)
local macro_rules|`(4e9)=>`(.Call (.Attribute (.Name y p3) "pop" p4) [] [] p5)
local macro_rules|`(5e0)=>`(some (m:Int))
local macro_rules|`(5e1)=>`(ns.map V.int)
local macro_rules|`(5e2)=>`(DealAt H a l s n ns)
local macro_rules|`(5e3)=>`(some 1.8)
local macro_rules|`(5e4)=>`(S.stp s1)
local macro_rules|`(5e5)=>`(.list ds)
local macro_rules|`(5e6)=>`(e::es)
local macro_rules|`(5e7)=>`(if zav (kept.filter (· != x)) vs ws then kept.filter (· != x) else kept)
local macro_rules|`(5e8)=>`(Sx w s.heap S es ep t)
local macro_rules|`(5e9)=>`({ s with toks:=s.toks+1 })
local macro_rules|`(6e0)=>`(List Stmt)
local macro_rules|`(6e1)=>`(by simpa using hh)
local macro_rules|`(6e2)=>`(tBM0 K "list" rPop (tVar m))
local macro_rules|`(6e3)=>`(⟨.type "dict",none,.dict es ep,#[]⟩)
local macro_rules|`(6e4)=>`(X.calm=true)
local macro_rules|`(6e5)=>`(zab 2.6 zad)
local macro_rules|`(6e6)=>`(.ref p)
local macro_rules|`(6e7)=>`(zdz X scope N')
local macro_rules|`(6e8)=>`(a::es)
local macro_rules|`(6e9)=>`(λj b=>(j≠i/\A j b)\/(j=i/\b=a))
local macro_rules|`(7e0)=>`(ys.map V.str)
local macro_rules|`(7e1)=>`(kvs.map λp=>kV p.1)
local macro_rules|`(7e2)=>`(stl a o)
local macro_rules|`(7e3)=>`(.tup xs)
local macro_rules|`(7e4)=>`(if neg then !es.any (λy=>QB y d) else es.any λy=>QB y d)
local macro_rules|`(7e5)=>`(List Env)
local macro_rules|`(7e6)=>`(λ_=>False)
local macro_rules|`(7e7)=>`((∀b o,b≠it->s.heap.get? b=some o->h'.get? b=some o))
local macro_rules|`(7e8)=>`(zat C 3.2 zai)
local macro_rules|`(7e9)=>`(∀i,Vis (X i).env.scope y)
local macro_rules|`(8e0)=>`(.str y)
local macro_rules|`(8e1)=>`(QJ λ_=>#[])
local macro_rules|`(8e2)=>`(.Attribute (.Name y p4) "pop" p5)
local macro_rules|`(8e3)=>`(HOk P w H h)
local macro_rules|`(8e4)=>`(.Name y p1)
local macro_rules|`(8e5)=>`(∀i,Gl (X i) x)
local macro_rules|`(8e6)=>`(λ_ z=>z)
local macro_rules|`(8e7)=>`(∀(kV doc pm:GE) (an:4.6) (cdv ct:GE) (us:2.8),us.length=ps.length->Tv (Zq x x (zb5 st) (zba st) 7.2 .none kV doc pm an cdv ct) 2e5=pure (ps.zip us))
local macro_rules|`(8e8)=>`(⟨rfl,xs,.of hl⟩)
local macro_rules|`(8e9)=>`(zbd I q 0.3)
local macro_rules|`(9e0)=>`(R->Prop)
local macro_rules|`(9e1)=>`(a == GZ)
local macro_rules|`(9e2)=>`(.bool b)
local macro_rules|`(9e3)=>`(w.params.setOrder S ep)
local macro_rules|`(9e4)=>`(⟨A',ρ',r',f3.trans f',q'⟩)
local macro_rules|`(9e5)=>`(sIx items.size items.size hi-sIx items.size 0 lo)
local macro_rules|`(9e6)=>`(PE X e te)
local macro_rules|`(9e7)=>`(λa u f q=>⟨un a f,q⟩)
local macro_rules|`(9e8)=>`(rI0 λi j=>.int (i+j))
local macro_rules|`(9e9)=>`(Zq "__init__" qual params [.Assign [.Attribute (.Name "self" p1) fl p2] (.Name an0 p3) p4] scope .none kV doc pm an cdv ct)
local macro_rules|`(10.0)=>`(some 3.0)
local macro_rules|`(10.1)=>`(λz=>hc (by simp[z]))
local macro_rules|`(10.2)=>`(λ_=>?_)
local macro_rules|`(10.3)=>`(Array GE)
local macro_rules|`(10.4)=>`((x.length:Int)-1)
local macro_rules|`(10.5)=>`(λb o hb e=>kk b o (by simpa using hb) e)
local macro_rules|`(10.6)=>`(∀i,GI [b] (X i).env = [1e4])
local macro_rules|`(10.7)=>`(⟨.bl _,H,I,rfl,q⟩)
local macro_rules|`(10.8)=>`(C.comp _ _)
local macro_rules|`(10.9)=>`(.Call (.Attribute a "replace" apos) [.Constant 8e0 k2 w2,.Constant (.str z) k3 w3] [] cpos)
local macro_rules|`(11.0)=>`(⟨_,_,rfl,rfl,_,zcu _ _ 0.2,_,rfl,?_⟩)
local macro_rules|`(11.1)=>`(⟨o,e,λv z=>by rw[d] at z;cases z⟩)
local macro_rules|`(11.2)=>`("_law_script" :: "_law_deal_here" :: N)
local macro_rules|`(11.3)=>`(T3 K (λ_:Unit=>Y.nox) (λ_:Unit=>O) c ft)
local macro_rules|`(11.4)=>`(⟨rfl,I.turned (t':=s.toks) (λb o hb e=>eb b o hb e) f0 f1 f3 f4 f5⟩)
local macro_rules|`(11.5)=>`(GI 5e6 X.env=6.6::GI es X.env)
local macro_rules|`(11.6)=>`(ks.toArray.zip vs.toArray)
local macro_rules|`(11.7)=>`(.Attribute 9.8 "pop" apos)
local macro_rules|`(11.8)=>`(I1.hok.fresh (Qi _))
local macro_rules|`(11.9)=>`(.Name "reversed" p2)
local macro_rules|`(12.0)=>`(zaj (pos:=px) (hN i) (hv i) hd hcd)
local macro_rules|`(12.1)=>`(Is.stp s2 3.8 3.8 (o1.is S.ok S.p))
local macro_rules|`(12.2)=>`(⟨λσ' H'=>∃A' ρ',Rep K O H₀ A' H' σ' ρ'/\Frm O A H A' H'/\∃m',m'<m/\W m' ρ',λσ' H' ⟨A',ρ',x1,x2,m',x3,x4⟩=>⟨m',x3,A',ρ',x1,x2,x4⟩,?_⟩)
local macro_rules|`(12.3)=>`(ρ.set i (some (.im d)))
local macro_rules|`(12.4)=>`(zay (h:=1000) 4)
local macro_rules|`(12.5)=>`((((Zx f.k::(f.xs ++ [x])).length:Nat):Int)<=(cntK f.k:Int))
local macro_rules|`(12.6)=>`(zaj (i:=3) rfl 0.9)
local macro_rules|`(12.7)=>`(zaj (i:=1) rfl 0.9)
local macro_rules|`(12.8)=>`(I.hok.fresh (Qi _))
local macro_rules|`(12.9)=>`(cxOf (CX1 P w) P w K mg base N x 7.2 f cdv A outer s H E)
local macro_rules|`(13.0)=>`(∀i,(X i).N[m]? = some y)
local macro_rules|`(13.1)=>`(.bool true)
local macro_rules|`(13.2)=>`(∀b∈ch,(b∈X.ex\/X.s₀.heap.objs.size<=b)/\b≠X.env.locals/\(∀x c,X.env.cells.lookup x=some c->c≠b)/\∀p∈X.pn++pins,p.1≠b)
local macro_rules|`(13.3)=>`(clOf scope.names X.env)
local macro_rules|`(13.4)=>`(zab 4.8 zad)
local macro_rules|`(13.5)=>`(zab 4.5 zad)
local macro_rules|`(13.6)=>`(.str (tx t))
local macro_rules|`(13.7)=>`(.im (tW vs))
local macro_rules|`(13.8)=>`(.im (tS ls))
local macro_rules|`(13.9)=>`(.builtin id)
local macro_rules|`(14.0)=>`(⟨λz=>hj z.symm,hb⟩)
local macro_rules|`(14.1)=>`(⟨_,_,rfl,rfl,_,zbn,_,rfl,?_⟩)
local macro_rules|`(14.2)=>`(⟨λA' σ' H' ρ' r' _ q=>hQ _ q .non H' r'.st Is.none,λA' σ' H' ρ' r' _ q=>q.elim,λA' σ' H' ρ' r' _ q=>q.elim,λH' v r s o q=>hQ r q v H' s o⟩)
local macro_rules|`(14.3)=>`(!(Zs j i 0 j.length 1).isEmpty)
local macro_rules|`(14.4)=>`(HT.sIx xs.length xs.length hi-HT.sIx xs.length 0 lo)
local macro_rules|`(14.5)=>`(⟨_,rfl,?_⟩)
local macro_rules|`(14.6)=>`(⟨λA' σ' H' ρ' r' f' q'=>9e4,λA' σ' H' ρ' r' f' q'=>P.nx A' σ' H' ρ' r' (f3.trans f') q',λA' σ' H' ρ' r' f' q'=>9e4,P.rt⟩)
local macro_rules|`(14.7)=>`(X.env::X.outer)
local macro_rules|`(14.8)=>`(zao (p2 i) za0 (hs i))
local macro_rules|`(14.9)=>`(.builtin "type.__call__" ⟨.ref C::us,kw⟩)
local macro_rules|`(15.0)=>`(⟨λm σ2 H2=>∃A2 ρ2,Rep K O H₀ A2 H2 σ2 ρ2/\Frm O A H A2 H2/\W m ρ2,⟨m0,A,ρ,r,.refl,w0⟩,?_⟩)
local macro_rules|`(15.1)=>`(tx (sgn t n))
local macro_rules|`(15.2)=>`(.Call (.Attribute 1.8 "extend" apos) [b] [] cpos)
local macro_rules|`(15.3)=>`(Sb a₀ kd ix st)
local macro_rules|`(15.4)=>`(λj a=>j≠i/\A j a)
local macro_rules|`(15.5)=>`(.Call (.Attribute a "append" apos) [b] [] cpos)
local macro_rules|`(15.6)=>`(∀i,(Tg pos (GI es (X i).env)).any (·.1)=false)
local macro_rules|`(15.7)=>`(Y.fn x=true\/Y.env.scope.names.lookup x=some .local)
local macro_rules|`(15.8)=>`(zen P w K mg base N x 7.2 f cdv A outer s H E)
local macro_rules|`(15.9)=>`(ks.length=vs.length)
local macro_rules|`(16.0)=>`(List (Key×GE))
local macro_rules|`(16.1)=>`((∀b∈fp,H' b=none))
local macro_rules|`(16.2)=>`(zaz C 4.8 zai)
local macro_rules|`(16.3)=>`(seqObj "list" ks.toArray e)
local macro_rules|`(16.4)=>`(λx1 x2=>x1++x2)
local macro_rules|`(16.5)=>`(.lit false)
local macro_rules|`(16.6)=>`(λb o hb z=>by rw[QS _ _ _ _ hb];exact z)
local macro_rules|`(16.7)=>`(GI 6e8 Y.env=(false,eval a Y.env)::GI es Y.env)
local macro_rules|`(16.8)=>`(upd H a o)
local macro_rules|`(16.9)=>`(reg A i W)
local macro_rules|`(17.0)=>`(zab 9.2 zad)
local macro_rules|`(17.1)=>`(.Name x pos)
local macro_rules|`(17.2)=>`(∀i,GI 6e8 (X i).env=4.2::GI es (X i).env)
local macro_rules|`(17.3)=>`(zlu (zf3 Bd rfl rfl rfl rfl rfl rfl mNoText FNoText ((C.room ()).mono 0.4) BNoText 0.4 EC.nt 13.4))
local macro_rules|`(17.4)=>`(zdq _ e λ_ z=>nomatch z)
local macro_rules|`(17.5)=>`(λ_=>hN _ ⟨w,o6,rfl,hw,by lia⟩)
local macro_rules|`(17.6)=>`(by first|exact .inl 0.2|exact .inr 0.2)
local macro_rules|`(17.7)=>`(⟨.str _,H,I.tok _,⟨_,rfl⟩,q⟩)
local macro_rules|`(17.8)=>`(⟨.int _,H,I.tok _,⟨_,rfl⟩,q⟩)
local macro_rules|`(17.9)=>`(.ref l)
local macro_rules|`(18.0)=>`(zde C hh.objs.size)
local macro_rules|`(18.1)=>`(⟨λ_=>rfl,λ_=>rfl,λ_=>rfl,λ_=>rfl,λ_=>rfl,λ_=>rfl,λ_=>hr,λ_=>rfl⟩)
local macro_rules|`(18.2)=>`(∀m' ix' st',Sb a₀ kd ix' st'->1<=m'->m'<=n->Up blt k ix' m'->Pre ix' m'->Q (some m') st')
local macro_rules|`(18.3)=>`(hbase i)
local macro_rules|`(18.4)=>`(⟨(λh=>(by cases h)),λh=>(by injection h with h;injection h with h1 h2;cases h2)⟩)
local macro_rules|`(18.5)=>`(∀b u,h.get? b=some u->h'.get? b=some u)
local macro_rules|`(18.6)=>`(Nat->Nat)
local macro_rules|`(18.7)=>`(C.calm i)
local macro_rules|`(18.8)=>`(λr s'=>r = .ok (.ret 13.1)/\OldK s₁.heap s'.heap/\s'.os=s₁.os/\Mu s'.gens)
local macro_rules|`(18.9)=>`(.type "list")
local macro_rules|`(19.0)=>`(za5 C 3.2 zbo (za1 9.2))
local macro_rules|`(19.1)=>`(.Compare a [op] [b] pos)
local macro_rules|`(19.2)=>`(λ_ h=>by cases h)
local macro_rules|`(19.3)=>`(Loc X.env.scope x)
local macro_rules|`(19.4)=>`(L2.mixKind P w)
local macro_rules|`(19.5)=>`(.Name "set" p2)
local macro_rules|`(19.6)=>`((·.setIfInBounds 1 (QP h1.objs.size)))
local macro_rules|`(19.7)=>`(upd H a (.lst v1))
local macro_rules|`(19.8)=>`(by simpa using nb)
local macro_rules|`(19.9)=>`(.lst (ys ++ [yv]))
local macro_rules|`(20.0)=>`(.builtin "sorted")
local macro_rules|`(20.1)=>`(List GF->Prop)
local macro_rules|`(20.2)=>`(.o (.bool (if neg then !q else q)))
local macro_rules|`(20.3)=>`(λC s H ex=>zet (N7 1.9) rfl 6.1 (by first|exact .inl rfl|exact .inr rfl))
local macro_rules|`(20.4)=>`({ s3 with heap:=s3.heap.push { cls:=.type "slice",data:=.fields #[vl,vu,.none] } })
local macro_rules|`(20.5)=>`(zde C s.heap.objs.size)
local macro_rules|`(20.6)=>`(.ref s2.heap.objs.size)
local macro_rules|`(20.7)=>`(λx=>!x.1)
local macro_rules|`(20.8)=>`(k == Zf && X.env.scope.kind == .function && X.env.kindOf x == some .cell)
local macro_rules|`(20.9)=>`(x ≠ "__name__")
local macro_rules|`(21.0)=>`({ s with heap:=s.heap.push (eObj w) })
local macro_rules|`(21.1)=>`(.int 0)
local macro_rules|`(21.2)=>`(List (Str×TN))
local macro_rules|`(21.3)=>`(.tuple (.str f.k::(f.xs ++ [s])))
local macro_rules|`(21.4)=>`(k == Zf && env.scope.kind == .function && env.kindOf n == some .cell)
local macro_rules|`(21.5)=>`(ws.map tS)
local macro_rules|`(21.6)=>`(.lit true)
local macro_rules|`(21.7)=>`(by cases z)
local macro_rules|`(21.8)=>`(λn=>if 0-n > n then 0-n else n)
local macro_rules|`(21.9)=>`(Qn h none++σ)
local macro_rules|`(22.0)=>`(zab 4.5 (zab 9.3 zad))
local macro_rules|`(22.1)=>`(.type "BaseException")
local macro_rules|`(22.2)=>`(by simpa using z)
local macro_rules|`(22.3)=>`(Def3 P w K mg base 2 "lies_under" ["less", "more"] (spO K 1.4 2 zdj))
local macro_rules|`(22.4)=>`(Is.str _)
local macro_rules|`(22.5)=>`(.o .none)
local macro_rules|`(22.6)=>`(by rw[C.hK,C.hw,C.hmg];exact G)
local macro_rules|`(22.7)=>`(ys.map .str)
local macro_rules|`(22.8)=>`(GI es X.env)
local macro_rules|`(22.9)=>`(.str (tx w))
local macro_rules|`(23.0)=>`(.both o a b)
local macro_rules|`(23.1)=>`(MU nm q C N bs bm true sn sub ab col dd k0 k1 k2 k3 k5 newId)
local macro_rules|`(23.2)=>`(⟨A',ρ',r',f13.trans f',q'⟩)
local macro_rules|`(23.3)=>`({ s with heap:=s.heap.push { cls:=.type "dict",data:=.dict #[] } })
local macro_rules|`(23.4)=>`(rI0 λi j=>.bl (decide (j<i)))
local macro_rules|`(23.5)=>`(kvs.any λkv=>decide (kv.1=k))
local macro_rules|`(23.6)=>`(Builtin.«tuple.__mul__» ⟨[.ref l,.int x u],[]⟩)
local macro_rules|`(23.7)=>`(Def3 P w K mg base 3 "holds" ["saying", "word"] (spO K 1.4 2 zle))
local macro_rules|`(23.8)=>`(.im (.int (way:Nat)))
local macro_rules|`(23.9)=>`(.While c body [] pos)
local macro_rules|`(24.0)=>`(by rw[C.hmg];exact B.reversed)
local macro_rules|`(24.1)=>`(.builtin "object.__setattr__")
local macro_rules|`(24.2)=>`(.BoolOp .And (a::b::rest) pos)
local macro_rules|`(24.3)=>`({ Dd with nx:=N,ct:=N,bk:=Dd.nx })
local macro_rules|`(24.4)=>`(Zq x qual (zb5 st) (zba st) 7.2 .none kV doc pm an cdv ct)
local macro_rules|`(24.5)=>`(V->List V->Hp->VK->Prop)
local macro_rules|`(24.6)=>`(Def3 P w K mg base 3 "answers" ["word", "n"] (spO K 1.4 2 zgq))
local macro_rules|`(24.7)=>`(zay (h:=1000) 3)
local macro_rules|`(24.8)=>`(TupStay.refl H1)
local macro_rules|`(24.9)=>`(Ti [] (X i).env)
local macro_rules|`(25.0)=>`(P.frm (.stp s1))
local macro_rules|`(25.1)=>`(.xd (ns.zip vs))
local macro_rules|`(25.2)=>`(.Name "dict" p1)
local macro_rules|`(25.3)=>`(.type "list_reverseiterator")
local macro_rules|`(25.4)=>`(.Call (.Name x p) 6e8 [] pos)
local macro_rules|`(25.5)=>`(do let v <- whole;standAt a.pos;holding [v] (truthy v))
local macro_rules|`(25.6)=>`(cxOf CX P w K mg base N qual scope f cdv A outer s H E)
local macro_rules|`(25.7)=>`(X.A.units+64<M8)
local macro_rules|`(25.8)=>`(A3 K X O [a] ga)
local macro_rules|`(25.9)=>`(σ.set i 3e6)
local macro_rules|`(26.0)=>`(PE X a ta)
local macro_rules|`(26.1)=>`(zen P w K mg base 11.2 "law" 7.2 f cdv A outer s H E)
local macro_rules|`(26.2)=>`(y.cps.toList.reverse.map sg)
local macro_rules|`(26.3)=>`((·.setIfInBounds 3 ((none:4.6).elim ZB λf=>rawInt f)))
local macro_rules|`(26.4)=>`((∀v H' r,Stp O H H'->Out K O H H' v r->Qd r->Q v H'))
local macro_rules|`(26.5)=>`(O.plus D 2.3)
local macro_rules|`(26.6)=>`(.type "dict")
local macro_rules|`(26.7)=>`(zbz N (ds.map .im ++ [.thg (OwnV (λv=>v=v0) d)]))
local macro_rules|`(26.8)=>`(L.Pairwise λa b=>wlt a b=true)
local macro_rules|`(26.9)=>`((decide (x < -2 ^ 63) || decide (x ≥ 2 ^ 63))=false)
local macro_rules|`(27.0)=>`(s.heap.push { cls:=.type "dict",data:=.dict #[] })
local macro_rules|`(27.1)=>`(.BoolOp .And (b::rest) pos)
local macro_rules|`(27.2)=>`(kvs.map (·.1))
local macro_rules|`(27.3)=>`(.tuple es)
local macro_rules|`(27.4)=>`(zaj (i:=2) rfl 0.9)
local macro_rules|`(27.5)=>`(eval 1.8 (X i).env)
local macro_rules|`(27.6)=>`(by rw[GK];simp;lia)
local macro_rules|`(27.7)=>`(.im (.int (m:Nat)))
local macro_rules|`(27.8)=>`(zaf (zap e_bl))
local macro_rules|`(27.9)=>`(List Int)
local macro_rules|`(28.0)=>`(⟨W,λa w=>⟨(hw a w).1,let ⟨o,q⟩:=(hw a w).2;⟨o,by rw[zac λz=>(hw a w).1 (.inr z)];exact q⟩⟩,T.to (λa u fa qa=>8.9) (λa u w q=>⟨w,by rw[zac λz=>(hw a w).1 (.inr z)];exact q⟩) (λb u hu hb=>?_) z⟩)
local macro_rules|`(28.1)=>`(λb u f q=>⟨un b u q f,s.s b u q f.1⟩)
local macro_rules|`(28.2)=>`(⟨hgo,λσ' H'=>∃A' ρ',Rep K O H₀ A' H' σ' ρ'/\Frm O A H1 A' H'/\zdg g gb Dd (ds.drop (i+1)) ρ',λσ' H' ⟨A',ρ',x1,x2,x3⟩=>⟨ds.length-(i+1),by lia,rfl,hlt,A',ρ',x1,x2,x3⟩,λx H3 y=>?_⟩)
local macro_rules|`(28.3)=>`(Stp O H H')
local macro_rules|`(28.4)=>`(tVar 0)
open PyProof.Rows renaming wpS_bind->GX, wpS_pure->Tl, get?_update_seq->TB, listUpdate_at->TV, wpS_forRange->Mh, arrOf->Mt, AllBare->Mu, listItems_at->Mw, size_push'->M0, call_function_entry_kw->MH, envOfC->MI, subscriptTail_builtinR->MK, entry_list_sort->MP, slot_list_sort->MW, wpS_reverse->MZ, subscriptTail->Nc, SortKind->Nh, entry_sorted->Nj, failedOf->Nk, plain_sorted->Nl, sortedS->Nm, wpS_get->Nn, kind_sorted->Nq, seqEpoch_at->Nr, IntsAre->Nu, StrsAre->Nv, wpS_mono->N2
open PySem renaming wpAny_bind->GD, Value->GE, PyData->GF, wpAny_pure->GG, Shared->GH, starEach->GI, Program->GJ, sizeLine_eq->GK, World->GL, attributeBase->GM, Around->GN, builtinLookup_eq_fast->GO, wpAny_newObj_type->GP, wpAny_mono->GQ, compareOp->GT, wpAny_holding->GU, swapsWith->GV, wpAny_Call_Name_kw->GW, bootBuiltins->GY, sysModules->GZ, wpAny_call_entry->Ta, codeAny_builtin->Tb, typeLookup_type->Tc, Keyword->Td, isSubtype_type->Te, behindInMarks->Tf, backTo->Tg, foldedSetIterable->Th, keywordEach->Ti, wpAny_truthy_bool->Tj, plainId_quiet->Tk, wpAny_typeOf->Tn, wpAny_callSpecial?_slot->To, wpAny_field->Tq, wpAny_passesOwn->Tr, cellsFrom->Ts, wpAny_specialOf->Tt, Scope->Tu, bindArgs->Tv, call_meets->Tw, wpAny_rule->Tz, wpAny_setField_rec->T0, backToKw->TC, codeAny_extend_loopS->TF, codeAny_mono->TH, assignEach->TJ, wpAny_attempt->TK, DictEntry->TL, FuncData->TM, NameKind->TN, wpAny_isInstance->TQ, SetTable->TR, wpAny_execs_nil->TU, wpAny_pyIter_list->TW, wpAny_of_eq->TX, wpAny_setField->TY, wpAny_execs_cons->TZ, codeAny->Ma, typeLookup->Mb, pickOrder->Mc, sliceBounds->Md, fits_of_scanBound->Me, wpAny_Call_method_late->Mf, wpAny_loadPart_at->Mg, entryFor_of_tree->Mi, wpAny_call->Mj, getItem->Mk, signature?_of->Ml, spliced->Mm, wpAny_newList->Mn, codeAny_call_builtin->Mo, evalEach->Mp, wpAny_pyIter_revIter->Mq, letOwnedTupleGo->Mr, wpAny_ite_false->Ms, hashStr->Mv, PassesOwn->Mx, seqIndex?->My, firstArgMember->Mz, wpAny_runValue->M1, wpAny_binaryOp_repeat_ref->M2, valueAt->M3, wpAny_Assign_Name->M4, wpAny_pyIter_slot->M5, pyNext->M6, wpAny_standAt->M7, cLine->M8, entryFor->M9, noFill_tuple_add->MA, relayAll->MB, wpAny_askSetting->MC, wpAny_getItem_of->MD, IsPart->ME, Paired->MF, argsOk->MG, pyIter->MJ, typeIs_int->ML, typeIs_str->MM, wpAny_load->MN, codeAny_of_tree->MO, pushCells_keeps->MQ, wpAny_isTrue_Compare1->MR, assign->MS, entryFor_alias->MT, excClassObj->MU, slicePicked->MV, wpAny_loadName_local->MX, wpAny_newTuple->MY, collect->Na, seq_tuple_add->Nb, BindsTo->Nf, GenState->Ng, concat_meets->Ni, Arguments->No, atKey->Np, wpAny_alloc->Nt, newList->Nw, setAttr->Nx, setNext->Ny, Result->Nz, bindC->N0, bindL->N1
abbrev N3:=@if_pos
abbrev N4:=@if_neg
abbrev N5:=@decide_eq_false
abbrev N6:=@decide_eq_true
abbrev N7:=@of_decide_eq_true
abbrev N8:=@decide_eq_true_eq
abbrev N9:=@beq_self_eq_true
abbrev NA:=@congrArg
abbrev NB:=@if_false
abbrev NC:=@if_true
abbrev ND:=@beq_iff_eq
open Array renaming getElem?_eq_getElem->QL, getElem?_toList->ZP, toList_inj->ZT, length_toList->Jf, mem_toList_iff->JX, getElem?_eq_some_iff->JY, getElem?_eq_none->YA, getD_eq_getD_getElem?->Vf, getElem?_modify->Ud, toList_push->UO, toList->G9
open Bool renaming false_ne_true->Qt, and_eq_true->Q6, false_eq_true->QR, and_eq_true_iff->Jd, eq_iff_iff->Jp, not_eq_true'->Y7, and_false->Vk, false_and->Ue, or_eq_true->Gg, or_false->Gs, true_and->G1
open Classical renaming byContradiction->Za
open False renaming elim->Zr
open ForInStep renaming yield->Yq
open Int renaming emod_lt_of_pos->Jl, emod_nonneg->JL, eq_ofNat_of_zero_le->VH, lt_of_lt_of_le->UC, natCast_mul->Gf
open List renaming getElem?_eq_some_iff->Qc, length_map->Qf, getElem?_eq_getElem->Qg, length_append->Qk, getElem?_map->Ql, mem_cons_of_mem->Qm, replicate->Qn, mem_singleton->Qo, length_cons->Qq, size_toArray->Qu, mem_append->Qx, map_cons->Qy, mem_cons_self->Q0, mem_cons->Q2, append_assoc->Q3, drop_eq_getElem_cons->Q4, getD_eq_getElem?_getD->Q5, getElem?_append_left->Q7, mem_append_right->Q8, getElem?_eq_none->Q9, mem_map->QA, getElem?_set_self->QC, map_append->QG, range->QH, map_map->QK, getElem?_set_ne->QM, getElem?_append_right->QN, getElem_mem->QQ, mem_append_left->QT, nodup_cons->QY, append_nil->Zd, mem_of_getElem?->Zg, getElem?_drop->Zk, length_replicate->Zo, lookup_cons_self->Zp, length_take->Zt, length_drop->Z0, replicate_succ->Z3, length_reverse->Z4, ext_getElem?->Z6, length_range->Z7, take_succ_eq_append_getElem->Z9, getElem?_replicate->ZA, length_set->ZC, lookup_cons->ZE, drop_length->ZF, foldl_cons->ZH, find?_cons->ZI, take_length->ZJ, flatten_cons->ZN, nodup_append->ZO, all_eq_true->ZS, not_mem_nil->ZU, mem_range->ZZ, lookup->Ja, mem_filter->Je, any_eq_true->Ji, length_nil->Jq, pairwise_map->Js, mem_of_mem_take->Ju, pairwise_iff_forall_sublist->Jv, filterMap_cons->J0, getElem?_cons_succ->J5, drop_drop->J8, not_lt->JA, drop_eq_nil_of_le->JE, nil_append->JI, getElem?_reverse->JQ, mem_iff_getElem?->JT, take_append_drop->JU, mem_reverse->Yd, cons_append->Ye, pairwise_iff_getElem->Yh, mem_of_find?_eq_some->Yi, getElem?_range->Yj, map_congr_left->Yk, mergeSort_perm->Yl, getElem_of_mem->Ym, getElem_range->Yt, find?_eq_none->Yu, eraseIdx_cons_succ->Yw, pairwise_mergeSort->Yx, length_eq_zero_iff->Yz, reverse_cons->Y2, lt_irrefl->Y9, drop_left->YC, eraseIdxIfInBounds_toArray->YD, length_singleton->YE, getElem?_toArray->YF, perm_append_comm->YI, foldl->YM, map_reverse->YN, length->YQ, mem_iff_getElem->YT, eq_nil_of_length_eq_zero->YU, length_eraseIdx->YW, mem_of_mem_drop->YX, length_pos_iff->Vc, drop_zero->Vm, getElem?_zip_eq_some->Vq, getElem?_eq_none_iff->Vr, head?_filter->V0, zipIdxLE->V8, filter_cons->VD, take_of_length_le->VL, sublist_cons_self->VO, singleton_sublist->VP, of_mem_zip->VS, find?_some->VX, take_eq_take_min->VY, length_filter_le->VZ, dropLast_concat->Uj, take_zero->Uk, take_succ->Um, filter_eq_self->Ut, perm_iff_count->Uu, lt_of_le_of_lt->Uv, filter_sublist->Uz, reverse_append->U0, any_cons->U1, lt_trans->U2, mem_filterMap->U3, contains_cons->U8, mem_mergeSort->UD, pairwise_cons->UE, take_sublist->UI, map_nil->UL, perm_middle->UY, le_antisymm->UZ, getD->Gb, filterMap->Gn, take_nil->Gw, map_take->Gx, map_drop->Gy, sum_cons->Gz, map_id''->G5
open List.Perm renaming eq_of_pairwise->V9, append_left->Ua, swap->Go, cons->Gp
open List.Sublist renaming refl->V4
open List.cons renaming injEq->Gh
open Nat renaming le_refl->Qi, zero_le->Qw, ne_of_lt->Qz, lt_of_lt_of_le->QE, le_trans->QF, lt_irrefl->Zi, lt_succ_of_lt->Zv, le_succ->ZG, ne_of_gt->ZM, lt_succ_self->ZR, le_of_lt->JC, le_of_succ_le->JV, le_of_not_lt->Yb, not_lt->Yr, add_comm->Y3, lt_trans->Y4, le_of_eq->Y5, lt_or_ge->Y6, min_eq_left->YZ, mul_comm->VJ, sub_zero->VM, zero_add->VN, le_antisymm->VU, lt_of_le_of_lt->U7, lt_of_le_of_ne->UA, succ_mul->UJ, lt_trichotomy->UQ, min_eq_right->Ga, not_lt_zero->Gk
open Ne renaming symm->ZD
open Option renaming map_eq_some_iff->Qv, none->QZ, map_some->JJ, isSome_iff_exists->Yn, isSome_map->Vv, isSome_some->U6, getD_none->US, bind_some->UW
open Option.some renaming inj->Zy
open PyProof.Rows renaming callWith_type1->Zl, slot_tuple_getitem->Zn, callWith_builtin1->J4, ksk_tree->Ub, ksk_rest->Uc, ksk_s1->Uw, ksk_l1->Ux
open PyProof.Rows.F renaming plain_set_update_loop->Yy, entry_set_update_loop->VE
open PyProof.Rows.IsTup renaming new->Uq
open PySem renaming Spec->Qe, mem_of_lookup->Z2, strKind->ZK, seqSlot_of->UX, call->Gm, KeyKind->Gr, Builtin->G0, Within->G8
open PySem.Around renaming under_plainId->Zb, under->VI
open PySem.Builtin.Dict renaming updateFrom->VF
open PySem.Builtin.Frozenset renaming updateFrom->Gi, newClass->Gq, slot0->G7
open PySem.Builtin.List renaming listExtendWith->Zm, listTooLong->Z1, listLengthHint->Z8, listSameRef->ZX, listFitsIndex->Ya, listTouch->YB
open PySem.Builtin.Slice renaming slicePlaces->Jo, sliceAdjust->Yf, sliceApplied->Vi
open PySem.Builtin.Str renaming occurrences->Zs, glued->Y8, strSliceIndices->Ve
open PySem.Builtin.Tuple renaming tupleExact->Jw, tupleItemsOf->Vj, tupleTooMany->Vo
open PySem.Calls renaming spliced_cons->QV, spliced_nil->Zu, callWith_builtin->JD, evalArgs_plain->YR, Constant_str->Vg, Name_function_global->Vh
open PySem.Code renaming quiet_builtin->Vl, isFrame->UH
open PySem.Data renaming seq->GB
open PySem.EntryCells renaming newEntry->Us
open PySem.F renaming plainAttrs_list->QU, plainAttrs_str->Jg, plain_list_iadd->Jt, slot_list_append->Jy, type_list_append->Jz, plain_extend_loop->J1, called_set->JH, slot_list_pop->JR, type_list_pop->JS, slot_tuple_mul->Yc, slot_dict_getitem->Yg, args_tuple_add_2->Yo, slot_list_getattribute->Yp, entry_tuple_add->Yv, slot_tuple_add->Y1, slot_str_join->YG, type_str_join->YH, entry_proto_collect->YJ, plain_proto_collect->YK, slot_int_rmul->YY, args_tuple_mul_2->Vp, entry_tuple_mul->Vx, entry_list_iadd->V2, slot_list_extend->V5, type_list_extend->V6, slot_dict_update->VA, args_list_extend_2->Ug, store_object->Ui, entry_list_extend->Ur, sub_reversed_self->Uy, args_int_rmul_2->UK, slot_tuple_rmul->UN, entry_list_pop->UT, slot_int_index->UU, entry_int_rmul->UV
open PySem.Heap renaming get?_push_of_some->Qb, get?_push_size->Qp, lt_size->Qs, get?_update_ne->QS, get?_update_other->QW, size_push->Zh, get?_update_self->Z5, SameBut->ZV, size_update->VG
open PySem.Heap.DictOf renaming new->Ge
open PySem.Heap.SameBut renaming update->Vd
open PySem.ItemsOf renaming nil->Vy
open PySem.Manifest renaming owners->Gj
open PySem.NameKind renaming free->Zf, cell->Zj
open PySem.Obj renaming mapSeq->QJ, data_mapFields->Jk, isFreed_of_fields->Jm, mapFields->Jx, cls_mapFields->UM
open PySem.Paired renaming length->JO, snoc->GA
open PySem.PassesOwn renaming leaving->Vz, never->VW
open PySem.PyData renaming eqv->QB, strOk->QX, canLayAll0->Zw, str->Zx, eqvAll->ZY, canLay0->Jc, depth->Jh, leavesShortAll->Jn, depthAll->Jr, showableAll->JF, leavesShort->JG, showable->JK, bool->YV, bulkAll->Vn, list->Vw, int->UB, bulk->Gd
open PySem.SetTable renaming grown->J9, below->JZ, fits->G4
open PySem.SetTable.below renaming go->V1
open PySem.Shared renaming TypeIs->V7
open PySem.Str renaming ofString->Qj, empty->QO, length->YL
open PySem.Txt renaming join->J7, replace->V3, find3->G6
open PySem.Value renaming ref->QP, none->ZB, bool->ZL, type->JB, isStrOf->JM, int->JN, isStrOf_shape->Va, str->VB
open PySem.W renaming Frag->Qa, mg_none_of->QD, nsIn->QI, findIn->Ze, fnOf->Zq, kia_one->Zz, mroIn->ZW, keepIn->Jb, kitOne->Jj, codeIn->J2, Looks->JP, emptyDict->JW, cellsFrom_some->Y0, mg_of->YO, looks_findIn->YS, looks_clsIn->Vb, methodObj->Vs, hasDictIn->Vt, specialIn->Vu, instObj->VQ, takesIn->VR, OpenLaw->VT, lookIn->Uf, typeIn->Uh, kitx_tuple->U4, callWith_K->U5, kitx_list->UF, kitx_dict->UG, plainGet->UR, WalkO->Gu, clsIn->Gv
open PySem.W.Looks renaming here->Ys, ld->VC
open PySem.Walks renaming dictKeys->Ul, list->U9
open PySem.Within renaming cons->GC
open PySem.pickOrder renaming go->UP
open String renaming ofList->G2
open Sum renaming inr->Zc, inl->Uo
open Sum.inr renaming inj->Gc
open True renaming intro->ZQ
set_option autoImplicit true
set_option relaxedAutoImplicit true
set_option Elab.async false
set_option linter.all false
set_option maxRecDepth 100000
local macro_rules|`(tactic|lia)=>`(tactic|first|with_reducible(first|assumption|exact Nat.le_refl _|exact Nat.zero_le _|exact Nat.le_of_lt ‹_›|exact Nat.le_succ_of_le ‹_›|exact Nat.lt_succ_of_lt ‹_›|exact Nat.lt_of_succ_lt ‹_›|exact Nat.lt_succ_of_le ‹_›|exact Nat.le_of_lt_succ ‹_›|exact Nat.pos_of_ne_zero ‹_›|exact Nat.ne_of_gt ‹_›|exact Nat.ne_of_lt ‹_›|exact Nat.le_of_not_lt ‹_›|exact Nat.lt_of_not_le ‹_›|exact Nat.succ_pos _|exact Nat.lt_succ_self _|exact Nat.lt_of_lt_of_le ‹_› ‹_›|exact Nat.lt_of_le_of_lt ‹_› ‹_›|exact Nat.le_trans ‹_› ‹_›)|cutsat)
local macro_rules|`(tactic|ac_rfl)=>`(tactic|(repeat infer_instance))
namespace L2
open PySem PySem.Spec PyProof.Rows
abbrev Key:=Sum Int Str
def zfm:Key->GE->Bool
 | .inl k,v=>Value.isInt k v
 | .inr x,v=>JM x v
def keyH(w:GL):Key->Int
 | .inl k=>hashInt k
 | .inr x=>Mv w x
theorem zbc:∀{k:Key} {v:GE},zfm k v=true->(∃i t,k=Uo i/\v=JN i t)\/(∃x t,k=Zc x/\v=VB x t)
 | .inl i,v,h=>by
   obtain⟨t,e⟩:=Value.isInt_shape (k:=i) (v:=v) h;exact .inl ⟨i,t,rfl,e⟩
 | .inr x,v,h=>by
   obtain⟨t,e⟩:=Va (x:=x) (v:=v) h;exact .inr ⟨x,t,rfl,e⟩
theorem zx4(i:Int)(t:Tok):zfm (.inl i) (.int i t)=true:=by simp[zfm,Value.isInt]
theorem keyIs_str(x:Str)(t:Tok):zfm (.inr x) (.str x t)=true:=by simp[zfm,JM]
theorem ya0(a b:Int):decide ((Uo a:Key)=Uo b)=(a == b):=by
 by_cases e:a=b
 .subst e;simp
 .have h:¬(Uo a:Key)=Uo b:=λq=>e (Sum.inl.inj q);rw[N5 h];exact(beq_eq_false_iff_ne.mpr e).symm
theorem ya2(a b:Str):decide ((Zc a:Key)=Zc b)=decide (a=b):=by
 by_cases e:a=b
 .subst e;simp
 .have h:¬(Zc a:Key)=Zc b:=λq=>e (Gc q);rw[N5 h,N5 e]
theorem ycv(a:Int)(b:Str):decide ((Uo a:Key)=Zc b)=false:=N5 (λq=>nomatch q)
theorem yau(a:Str)(b:Int):decide ((Zc a:Key)=Uo b)=false:=N5 (λq=>nomatch q)
def mixKind(prog:GJ)(w:GL):Gr prog w Key where
 is:=zfm
 hash:=keyH w
 inj:=λv a b ha hb=>by
  rcases zbc ha with ⟨i,t,rfl,rfl⟩|⟨x,t,rfl,rfl⟩
  .rcases zbc hb with ⟨j,u,rfl,e⟩|⟨y,u,rfl,e⟩
   .injection e with e1 _;rw[e1]
   .exact nomatch e
  .rcases zbc hb with ⟨j,u,rfl,e⟩|⟨y,u,rfl,e⟩
   .exact nomatch e
   .injection e with e1 _;rw[e1]
 byValue:=λk v h=>by
  rcases zbc h with ⟨i,t,rfl,rfl⟩|⟨x,t,rfl,rfl⟩ <;> rfl
 pyHash:=λhv h=>by
  rcases zbc hv with ⟨i,t,rfl,rfl⟩|⟨x,t,rfl,rfl⟩
  .exact wpAny_pyHash_int h
  .exact wpAny_pyHash_str h
 eqBool:=λhu hv h=>by
  rcases zbc hu with ⟨i,t,rfl,rfl⟩|⟨x,t,rfl,rfl⟩
  .rcases zbc hv with ⟨j,u,rfl,rfl⟩|⟨y,u,rfl,rfl⟩
   .rw[ya0] at h;exact wpAny_eqBool_int h
   .rw[ycv] at h;exact SeqAt.EqAt.int_str i t y u _ _ _ _ h
  .rcases zbc hv with ⟨j,u,rfl,rfl⟩|⟨y,u,rfl,rfl⟩
   .rw[yau] at h;exact SeqAt.EqAt.str_int x t j u _ _ _ _ h
   .rw[ya2] at h;exact wpAny_eqBool_str h
 «strs»:=λk x t v h=>by
  rcases zbc h with ⟨i,u,rfl,e⟩|⟨y,u,rfl,e⟩
  .exact nomatch e
  .injection e with e1 _;subst e1;cases v <;> rfl
theorem zrq(prog:GJ)(w:GL)(i:Int)(t:Tok):(mixKind prog w).is (.inl i) (.int i t)=true:=zx4 i t
theorem zf0(prog:GJ)(w:GL)(x:Str)(t:Tok):(mixKind prog w).is (.inr x) (.str x t)=true:=keyIs_str x t
inductive V where
 | non|bl (b:Bool)|int (i:Int)|str (x:Str)|byt (b:Array UInt8)|flt (b:UInt64)|ref (a:Addr)|ty (n:String)
 deriving DecidableEq
def RelV:V->GE->Prop
 | .non,u=>u=ZB
 | .bl b,u=>u=ZL b
 | .int i,u=>∃t,u=JN i t
 | .str x,u=>∃t,u=VB x t
 | .byt b,u=>∃t,u=Value.bytes b t
 | .flt b,u=>∃t,u=Value.float b t
 | .ref a,u=>u=QP a
 | .ty n,u=>u=JB n
abbrev Vals:List V->List GE->Prop:=MF RelV
theorem Vals.length(r:Vals xs us):xs.length=us.length:=JO r
theorem Vals.get:∀{xs:5.4} {us:2.8} {i:Nat} {x:V},Vals xs us->xs[i]? = some x->∃u,us[i]? = some u/\RelV x u
 | _,_,_,_,.nil,e=>by simp at e
 | _,_,0,_,.cons r _,e=>by simp at e;subst e;exact⟨_,rfl,r⟩
 | _,_,i+1,x,.cons _ t,e=>by
   obtain⟨u,h1,h2⟩:=Vals.get (i:=i) (x:=x) t 9.0;exact⟨u,by simpa using h1,h2⟩
theorem Vals.append:∀{xs ys:5.4} {us ws:2.8},Vals xs us->Vals ys ws->Vals (xs++ys) (us++ws)
 | _,_,_,_,.nil,s=>s
 | _,_,_,_,.cons r t,s=>.cons r (Vals.append t s)
theorem Vals.take:∀{xs:5.4} {us:2.8} (n:Nat),Vals xs us->Vals (xs.take n) (us.take n)
 | _,_,0,_=>.nil
 | _,_,_+1,.nil=>.nil
 | _,_,n+1,.cons r t=>.cons r (Vals.take n t)
theorem Vals.drop:∀{xs:5.4} {us:2.8} (n:Nat),Vals xs us->Vals (xs.drop n) (us.drop n)
 | _,_,0,r=>r
 | _,_,_+1,.nil=>.nil
 | _,_,n+1,.cons _ t=>Vals.drop n t
def RelO:Option V->Option GE->Prop
 | some v,some u=>RelV v u
 | none,none=>True
 | _,_=>False
def KV{κ:Type}:List (κ×V)->List (κ×GE)->Prop:=MF λ(p:κ×V) (q:κ×GE)=>p.1=q.1/\RelV p.2 q.2
def kV:Key->V
 | .inl i=>.int i
 | .inr x=>.str x
inductive HO where
 | lst (xs:5.4)
 | tup (xs:5.4)
 | dK (kvs:0e5)|dT (kvs:List (List Key×V))
 | set (S:Int->Bool) (n:Nat)
 | ins (C dx:Addr) (fs:List (Str×V))
 | own (x:Addr)
 | xd (fs:List (Str×V))
 | met (f x:Addr)
 | rng (lo hi:Int)
 | frz (o:Obj) (u:HO)
 | tbl (ps:10.3)
 | ext (φ:Heap->Prop)
abbrev Hp:=Addr->Option HO
def upd(H:Hp)(a:Addr)(o:HO):Hp:=λb=>if b=a then some o else H b
theorem zah: upd H a o a=some o:=by unfold upd;rw[N3 rfl]
theorem zac(h:b≠a):upd H a o b=H b:=by unfold upd;rw[N4 h]
theorem zs4: upd 16.8 a u=upd H a u:=by
 funext b;unfold upd;split <;> rfl
theorem yd7{H:Hp}{a b:Addr}{o u:HO}(h:H a=some o)(h':H b=some u)(d:o≠u):a≠b:=by
 intro e;subst e;rw[h] at h';exact d (Zy h')
theorem zce{H:Hp}{a b:Addr}{o:HO}(h:H a=some o)(h':H b=none):a≠b:=by
 intro e;subst e;rw[h] at h';cases h'
section
variable (P:GJ)(w:GL)
def ObjOk(H:Hp)(h:Heap)(a:Addr):HO->Prop
 | .lst xs=>xs.length<=sizeLine/\∃(its:2.8) (n:Nat),Vals xs its/\h.get? a=some { cls:=.type "list",data:=.seq its.toArray n }
 | .tup xs=>xs.length<=sizeLine/\∃its:List GE,Vals xs its/\IsTup h a its.toArray
 | .dK kvs=>kvs.length<=sizeLine/\9e1=false/\∃vs,KV kvs vs/\h.DictOf 1e0 a vs
 | .dT kvs=>kvs.length<=sizeLine/\9e1=false/\∃xs:List (List Key×Addr×GE),
  MF (λ(p:List Key×V) (q:List Key×Addr×GE)=>p.1=q.1/\H q.2.1=some (.tup (p.1.map kV))/\RelV p.2 q.2.2) kvs xs /\
  ∃o es ep,h.get? a=some o/\o.ExactDict/\o.data = .dict es ep/\es.toList=xs.map (entryOfKey (tupleKind 1e0))/\(xs.map (·.1)).Nodup
 | .set S n=>h.SetOf (intKind P w) a S n
 | .ins C dx fs=>H dx=some (.own a)/\fs.length<=1000/\dx≠a/\h.get? a=some (VQ C dx) /\
  ∃mA,h.Ns1 dx mA/\(∀f,RelO (fs.lookup f) (mA f))/\G8 mA (fs.map (·.1))
 | .own _=>∃o,h.get? a=some o
 | .xd fs=>∃mA,h.Ns1 a mA/\∀f,RelO (fs.lookup f) (mA f)
 | .rng lo hi=>∃t u v,h.get? a=some { cls:=.type "range",data:=.fields #[.int lo t,.int hi u,.int 1 v] }
 | .frz o u=>h.get? a=some o/\ObjOk H h a u
 | .tbl ps=>h.get? a=some { cls:=.none,data:=.fields ps }
 | .met f x=>h.get? a=some (Vs 9.1 (.ref x))
 | .ext φ=>φ h/\(∃o,h.get? a=some o)/\∀h1 h2:Heap,φ h1->(∀o,h1.get? a=some o->h2.get? a=some o)->φ h2
def HOk(H:Hp)(h:Heap):Prop:=∀a o,H a=some o->ObjOk P w H h a o
end
section
variable {P:GJ}{w:GL}{H H':Hp}{h h':Heap}{a:Addr}{o:HO}
theorem ObjOk.lt(x:ObjOk P w H h a o):a<h.objs.size:=by
 cases o with
 | lst xs=>obtain⟨_,_,_,_,e⟩:=x;exact Qs e
 | tup xs=>obtain⟨_,_,_,p⟩:=x;exact p.lt
 | dK kvs=>obtain⟨_,_,_,_,o,_,_,e,_⟩:=x;exact Qs e
 | dT kvs=>obtain⟨_,_,_,_,o,_,_,e,_⟩:=x;exact Qs e
 | set S n=>obtain⟨o,_,_,_,e,_⟩:=x;exact Qs e
 | ins C dx fs=>obtain⟨_,_,_,e,_⟩:=x;exact Qs e
 | own y=>obtain⟨_,e⟩:=x;exact Qs e
 | xd fs=>obtain⟨_,⟨_,_,_,e,_⟩,_⟩:=x;exact Qs e
 | rng lo hi=>obtain⟨_,_,_,e⟩:=x;exact Qs e
 | frz ob u=>obtain⟨e,_⟩:=x;exact Qs e
 | tbl ps=>exact Qs (show h.get? a=some _ from x)
 | met f y=>exact Qs (show h.get? a=some _ from x)
 | ext φ=>obtain⟨_,⟨_,e⟩,_⟩:=x;exact Qs e
theorem Paired.mapP{α β:Type}{F G:α->β->Prop}:∀{l₁:6.5} {l₂:List β},MF F l₁ l₂->(∀a b,F a b->G a b)->MF G l₁ l₂
 | _,_,.nil,_=>.nil
 | _,_,.cons r t,f=>.cons (f _ _ r) (Paired.mapP t f)
theorem ObjOk.stay(x:ObjOk P w H h a o)(k:∀b u,(b=a\/H b=some (.own a))->h.get? b=some u->h'.get? b=some u)
 (ho:∀b,H b=some (.own a)->H' b=some (.own a)) (ht:∀b xs,H b=some 7e3->H' b=some 7e3):ObjOk P w H' h' a o:=by
 induction o with
 | lst xs=>obtain⟨z,its,n,r,e⟩:=x;exact⟨z,its,n,r,k _ _ 7.8 e⟩
 | tup xs=>obtain⟨z,its,r,ob,e,c⟩:=x;exact⟨z,its,r,ob,k _ _ 7.8 e,c⟩
 | dK kvs=>obtain⟨z,y,vs,r,ob,es,ep,e,c⟩:=x;exact⟨z,y,vs,r,ob,es,ep,k _ _ 7.8 e,c⟩
 | dT kvs=>
   obtain⟨z,y,xs,r,ob,es,ep,e,c⟩:=x;exact⟨z,y,xs,Paired.mapP r λp q z=>⟨z.1,ht _ _ z.2.1,z.2.2⟩,ob,es,ep,k _ _ 7.8 e,c⟩
 | set S n=>obtain⟨ob,es,ep,t,e,c⟩:=x;exact⟨ob,es,ep,t,k _ _ 7.8 e,c⟩
 | ins C dx fs=>
   obtain⟨d,z,ne,e,mA,⟨od,es,ep,e2,c⟩,r⟩:=x;exact⟨ho _ d,z,ne,k _ _ 7.8 e,mA,⟨od,es,ep,k _ _ (.inr d) e2,c⟩,r⟩
 | own y=>obtain⟨ob,e⟩:=x;exact⟨ob,k _ _ 7.8 e⟩
 | xd fs=>obtain⟨mA,⟨od,es,ep,e,c⟩,r⟩:=x;exact⟨mA,⟨od,es,ep,k _ _ 7.8 e,c⟩,r⟩
 | rng lo hi=>obtain⟨t,u,v,e⟩:=x;exact⟨t,u,v,k _ _ 7.8 e⟩
 | frz ob u ih=>obtain⟨e,q⟩:=x;exact⟨k _ _ 7.8 e,ih q⟩
 | tbl ps=>
   have e:h.get? a=some { cls:=.none,data:=.fields ps }:=x;show h'.get? a=some { cls:=.none,data:=.fields ps };exact k a _ 7.8 e
 | met f y=>
   have e:h.get? a=some (Vs 9.1 (.ref y)):=x;show h'.get? a=some (Vs 9.1 (.ref y));exact k a _ 7.8 e
 | ext φ=>obtain⟨p,⟨o,e⟩,st⟩:=x;exact⟨st _ _ p λo q=>k _ _ 7.8 q,⟨o,k _ _ 7.8 e⟩,st⟩
theorem HOk.lt(x:8e3)(e:H a=some o):a<h.objs.size:=(x a o e).lt
theorem HOk.fresh(x:8e3)(e:h.objs.size<=a):H a=none:=by
 cases q:H a with
 | none=>rfl
 | some u=>exact absurd (QE (x.lt q) e) (Zi _)
theorem HOk.kept(x:8e3)(k:18.5):HOk P w H h':=λa o e=>
 (x a o e).stay (λb u _ q=>k b u q) (λ_ q=>q) λ_ _ q=>q
theorem HOk.laid(x:8e3)(k:18.5)(hp:h.objs.size<=a)(new:ObjOk P w 16.8 h' a o):HOk P w 16.8 h':=λb u e=>by
 have hn:=x.fresh hp
 by_cases hb:b=a
 .subst hb;rw[zah] at e;cases e;exact new
 .rw[zac hb] at e;exact(x b u e).stay (λc v _ q=>k c v q) (λc q=>by rw[zac (zce q hn)];exact q) λc xs q=>by rw[zac (zce q hn)];exact q
end
def Rd(H:Hp)(a:Addr)(u:HO):Prop:=H a=some u\/∃o,H a=some (.frz o u)
theorem Rd.of(h:H a=some u):Rd H a u:=.inl h
theorem Rd.ok(r:Rd H a u)(x:8e3):ObjOk P w H h a u:=by
 rcases r with r|⟨o,r⟩
 .exact x a u r
 .obtain⟨_,q⟩:=x a _ r;exact q
def Mut:Option HO->Prop
 | some (.lst _)=>True
 | some (.dK _)=>True
 | some (.dT _)=>True
 | some (.set _ _)=>True
 | some (.ins _ _ _)=>True
 | some (.ext _)=>True
 | _=>False
section
variable {P:GJ}{w:GL}{H:Hp}{h h':Heap}{x e:Addr}{o':HO}
theorem HOk.write(ok:8e3)(mu:Mut (H x))(he:e=x\/H e=some (.own x))(k:∀b u,b≠e->h.get? b=some u->h'.get? b=some u)(heo:∃u,h'.get? e=some u)
 (new:ObjOk P w (upd H x o') h' x o'):HOk P w (upd H x o') h':=λb u q=>by
 have nown:∀c y,H c=some (.own y)->c≠x:=λc y r z=>by subst z;rw[r] at mu;exact mu
 have ntup:∀c xs,H c=some 7e3->c≠x:=λc xs r z=>by subst z;rw[r] at mu;exact mu
 by_cases hb:b=x
 .subst hb;rw[zah] at q;cases q;exact new
 .rw[zac hb] at q
  by_cases hbe:b=e
  .have q':H b=some (.own x):=by
    rcases he with z|z
    .exact absurd (hbe.trans z) hb
    .rw[hbe];exact z
   rw[q] at q';cases q';obtain⟨v,hv⟩:=heo;exact⟨v,by rw[hbe];exact hv⟩
  .refine(ok b u q).stay (λc v hc r=>k c v ?_ r) (λc r=>by rw[zac (nown c b r)];exact r) λc xs r=>by rw[zac (ntup c xs r)];exact r
   rcases hc with rfl|hc
   .exact hbe
   .rintro rfl;rcases he with z|z
    .exact nown c b hc z
    .rw[hc] at z;cases z;exact hb rfl
end
structure Un(fs ex:3e9)(H H':Hp)(h h':Heap):Prop where
 keep:∀b o,h.get? b=some o->H b=none->b ∉ fs->b ∉ ex->h'.get? b=some o
 slot:∀b o,h.get? b=some o->H b=none->b∈fs->b ∉ ex->∃sl,h'.get? b=some { o with slots:=sl }
 free:∀b o,h.get? b=some o->H b=none->b ∉ ex->H' b=none
 there:∀b o,h.get? b=some o->b ∉ ex->∃o',h'.get? b=some o'
 tups:∀b xs,H b=some 7e3->H' b=some 7e3
 frzs:∀b o u,H b=some (.frz o u)->H' b=some (.frz o u)
 tbls:∀b ps,H b=some (.tbl ps)->∃more,H' b=some (.tbl (ps++more))
section
variable {fs fs' ex ex':3e9}{H H1 H2:Hp}{h h1 h2 h':Heap}{a x e:Addr}{o:HO}
theorem Un.any(u:Un fs ex H H1 h h1)(q:h.get? b=some ob)(n:H b=none)(hx:b ∉ ex):∃sl,h1.get? b=some { ob with slots:=sl }:=by
 by_cases hb:b∈fs
 .exact u.slot b ob q n hb hx
 .exact⟨ob.slots,u.keep b ob q n hb hx⟩
theorem Un.kept(k:18.5):Un fs ex H H h h' :=
 ⟨λb ob q _ _ _=>k b ob q,λb ob q _ _ _=>⟨ob.slots,k b ob q⟩,λ_ _ _ n _=>n,λb ob q _=>⟨ob,k b ob q⟩,λ_ _ q=>q,λ_ _ _ q=>q,λ_ ps q=>⟨#[],by rw[q];simp⟩⟩
theorem Un.refl:Un fs ex H H h h:=Un.kept λ_ _ q=>q
theorem Un.laid(k:18.5)(hp:h.objs.size<=a)(hn:H a=none):Un fs ex H 16.8 h h' where
 keep:=λb u q _ _ _=>k b u q
 slot:=λb u q _ _ _=>⟨u.slots,k b u q⟩
 free:=λb u q n _=>by rw[zac (Qz (QE (Qs q) hp))];exact n
 there:=λb u q _=>⟨u,k b u q⟩
 tups:=λb xs q=>by rw[zac (zce q hn)];exact q
 frzs:=λb u xs q=>by rw[zac (zce q hn)];exact q
 tbls:=λb ps q=>⟨#[],by rw[zac (zce q hn),q];simp⟩
theorem Un.write(mu:Mut (H x))(he:e=x\/H e=some (.own x))(k:∀b u,b≠e->h.get? b=some u->h'.get? b=some u)(heo:∃u,h'.get? e=some u):Un fs ex H (upd H x o) h h':=by
 have hx:∀b,H b=none->b≠x:=λb n z=>by subst z;rw[n] at mu;exact mu
 have hb:∀b,H b=none->b≠e:=λb n z=>by
  subst z;rcases he with r|r
  .exact hx b n r
  .rw[n] at r;cases r
 have hm:∀b u,H b=some u->¬Mut (some u)->b≠x:=λb u q nm z=>by subst z;rw[q] at mu;exact nm mu
 refine⟨λb u q n _ _=>k b u (hb b n) q,λb u q n _ _=>⟨u.slots,k b u (hb b n) q⟩,λb u q n _=>by rw[zac (hx b n)];exact n,λb u q _=>?_,
  λb xs q=>by rw[zac (hm b _ q λz=>z)];exact q,λb u xs q=>by rw[zac (hm b _ q λz=>z)];exact q,λb ps q=>⟨#[],by rw[zac (hm b _ q λz=>z),q];simp⟩⟩
 by_cases hbe:b=e
 .subst hbe;exact heo
 .exact⟨u,k b u hbe q⟩
end
def trk(h:Heap)(H:Hp):List Addr:=(QH h.objs.size).filter λa=>(H a).isSome
def hidT(h:Heap)(H:Hp):Heap:=PySem.W.hideAll h (trk h H)
theorem zv3(h:Heap)(H:Hp):(hidT h H).objs.size=h.objs.size:=PySem.W.hideAll_size _ _
theorem z0c(e:h.get? b=some o)(n:H b=none):(hidT h H).get? b=some o :=
 PySem.W.hideAll_get _ e λhm=>by
  have q:(H b).isSome=true:=(Je.mp hm).2;rw[n] at q;simp at q
theorem z9c(e:(hidT h H).get? b=some o):h.get? b=some o/\H b=none:=by
 have e':h.get? b=some o:=PySem.W.of_hideAll (trk h H) e;refine⟨e',?_⟩
 cases q:H b with
 | none=>rfl
 | some x=>
   have hm:b∈trk h H:=Je.mpr ⟨ZZ.mpr (Qs e'),by simp[q]⟩;have z:(hidT h H).get? b=none:=PySem.W.hideAll_none (trk h H) hm;rw[z] at e;cases e
structure Mod(K:Qa)(mg:0.1)(base:Heap):Prop where
 kin:K.In base
 glob:base.Ns mainGlobals mg
 blt:∃mb,base.Ns builtinsNs mb/\∀x:Str,x ≠ "__name__" -> mb x=GY x
 nolimit:base.NoLimit
structure Cx where
 prog:GJ
 w:GL
 K:Qa
 mg:Str->Option GE
 base:Heap
 A:GN
 N:List Str
 s₀:GH
 H₀:Hp
 env:Env
 outer:List Env
 stack:List Env
 ex:List Addr
 fn:Str->Bool
 calm:Bool
 pn:List (Addr×Obj)
 xe:GE->GH->Prop
def frs(l:7e5):List Addr:=l.filterMap (·.frame)
abbrev Cx.fs(X:Cx):List Addr:=frs X.outer
def Vis(sc:Tu)(x:Str):Prop:=sc.names.lookup x=some .local\/sc.names.lookup x=some .cell\/sc.names.lookup x=some .free
def Loc(sc:Tu)(x:Str):Prop:=sc.names.lookup x=some .local\/sc.names.lookup x=some .cell
def Look(env:Env)(h:Heap)(m:0.1)(x:Str)(u:GE):Prop :=
 (env.kindOf x=some .local/\m x=some u)\/((env.kindOf x=some .cell\/env.kindOf x=some .free)/\∃c,env.cells.lookup x=some c/\h.IsCell c (some u))
structure Cx.Ok(X:Cx):Prop where
 mod:Mod X.K X.mg X.base
 kind:X.env.scope.kind = .function
 glob:X.env.globals=mainGlobals
 blt:X.env.builtins=builtinsNs
 above:X.s₀.heap.objs.size<=X.env.locals
 inj:∀x y c,X.env.cells.lookup x=some c->X.env.cells.lookup y=some c->x=y
 has:∀x,(X.env.kindOf x=some .cell\/X.env.kindOf x=some .free)->∃c,X.env.cells.lookup x=some c
 cab:∀x c,X.fn x=true->X.env.cells.lookup x=some c->X.s₀.heap.objs.size<=c
 hd:X.calm=true->X.A.handled=none
 frames:X.A.frames=some X.stack
 stk:X.stack=X.outer\/(X.stack=X.env::X.outer/\X.env.frame=some X.env.locals)
 exf:∀b∈X.ex,b≠X.env.locals/\∀x c,X.env.cells.lookup x=some c->c≠b
 bs:∀b o,X.base.get? b=some o->X.s₀.heap.get? b=some o/\X.H₀ b=none
 bsz:X.base.objs.size<=X.s₀.heap.objs.size
 noex:∀b o,X.base.get? b=some o->b ∉ X.ex
 exfs:∀b∈X.ex,b ∉ X.fs
 funs:X.s₀.heap.FunFrames X.base X.outer
 frf:∀b∈X.fs,X.H₀ b=none
structure Inv(X:Cx)(pins:1.1)(σ:List (Option V))(H:Hp)(s:GH):Prop where
 ok:X.Ok
 os:s.os=X.s₀.os
 bare:Mu s.gens
 base:Un X.fs X.ex X.H₀ H X.s₀.heap s.heap
 loc:∃m,s.heap.Ns X.env.locals m/\∀(i:Nat) (x:Str) (v:V),X.N[i]? = some x->σ[i]? = some 3e6->Vis X.env.scope x->∃u,RelV v u/\Look X.env s.heap m x u
 cell:∀x c,X.env.cells.lookup x=some c->∃v,s.heap.IsCell c v
 free:H X.env.locals=none
 freeC:∀x c,X.env.cells.lookup x=some c->H c=none
 pin:∀p∈X.pn++pins,s.heap.get? p.1=some p.2/\H p.1=none/\p.1≠X.env.locals/\p.1 ∉ X.fs/\∀v,p.2.data≠.cell v
 hok:HOk X.prog X.w H s.heap
 len:σ.length=X.N.length
section
variable {X:Cx}{pins:1.1}{σ:List (Option V)}{H H':Hp}{s:GH}{h':Heap}
theorem Cx.Ok.nofr(ok:X.Ok)(e:X.base.get? b=some o):b ∉ X.fs:=λhb=>by
 have:=(ok.funs.mem hb).1;rw[e] at this;cases this
theorem Inv.bs(I:0.6):∀b o,X.base.get? b=some o->s.heap.get? b=some o/\H b=none:=λb o e=>
 ⟨I.base.keep b o (I.ok.bs b o e).1 (I.ok.bs b o e).2 (I.ok.nofr e) (I.ok.noex b o e),I.base.free b o (I.ok.bs b o e).1 (I.ok.bs b o e).2 (I.ok.noex b o e)⟩
theorem Inv.bk(I:0.6):∀b o,X.base.get? b=some o->s.heap.get? b=some o:=λb o e=>(I.bs b o e).1
theorem Inv.mod(I:0.6):Mod X.K X.mg X.base:=I.ok.mod
theorem Inv.kIn(I:0.6):X.K.In s.heap:=I.ok.mod.kin.keeps I.bk
theorem Inv.lt(I:0.6):X.env.locals<s.heap.objs.size:=let ⟨_,hn,_⟩:=I.loc;hn.lt
theorem Inv.sz(I:0.6):X.s₀.heap.objs.size<=s.heap.objs.size:=QF I.ok.above (JC I.lt)
theorem Inv.nofs(I:0.6)(h:s.heap.objs.size<=a):a ∉ X.fs:=λhb=>by
 obtain⟨_,o,ho,_⟩:=I.ok.funs.mem hb;exact absurd (QE (Qs ho) (QF I.sz h)) (Zi _)
theorem Inv.cne(I:0.6):∀x c,X.env.cells.lookup x=some c->c≠X.env.locals:=λx c e z=>by
 obtain⟨v,o,ho,hd⟩:=I.cell x c e;obtain⟨m,⟨o',es,ep,ho',hd',_⟩,_⟩:=I.loc;rw[z,ho'] at ho;cases ho;rw[hd'] at hd;cases hd
theorem Inv.funs(I:0.6):s.heap.FunFrames X.base X.outer:=by
 have all:∀(l:7e5),(∀b∈frs l,b∈X.fs)->X.s₀.heap.FunFrames X.base l->s.heap.FunFrames X.base l:=by
  intro l
  induction l with
  | nil=>intro _ _;trivial
  | cons env r ih=>
    intro hs hl;obtain⟨hk,⟨L,o,hf,hn,ho,hd⟩,hr⟩:=hl;have hL:L∈X.fs:=hs L (by unfold frs;rw[J0,hf];exact Q0);obtain⟨sl,e⟩:=I.base.slot L o ho (I.ok.frf L hL) hL λz=>I.ok.exfs L z hL;exact⟨hk,⟨L,_,hf,hn,e,hd⟩,ih (λb hb=>hs b (by unfold frs;rw[J0,hf];exact Qm _ hb)) hr⟩
 exact all X.outer (λ_ hb=>hb) I.ok.funs
theorem Inv.stack(I:0.6):s.heap.FunFrames X.base X.stack:=by
 rcases I.ok.stk with e|⟨e,hf⟩
 .rw[e];exact I.funs
 .rw[e];obtain⟨m,hn,_⟩:=I.loc;refine .cons (by rw[I.ok.kind];decide) hf hn ?_ I.funs;exact Heap.get?_none_of_le (QF I.ok.bsz I.ok.above)
theorem Inv.stkSub(I:0.6):∀b∈frs X.stack,b∈X.env.locals::X.fs:=λb hb=>by
 rcases I.ok.stk with e|⟨e,hf⟩
 .rw[e] at hb;exact Qm _ hb
 .rw[e] at hb;unfold frs at hb;rw[J0,hf] at hb;exact hb
theorem Inv.stkFree(I:0.6):∀b∈frs X.stack,H b=none:=λb hb=>by
 rcases Q2.mp (I.stkSub b hb) with e|hb
 .rw[e];exact I.free
 .obtain⟨_,o,ho,_⟩:=I.ok.funs.mem hb;exact I.base.free b o ho (I.ok.frf b hb) λz=>I.ok.exfs b z hb
theorem Inv.step{g':Array Ng}{t':Nat}{d':Drawn}{ch:3e9}(I:0.6)
 (hch:13.2)
 (keep:∀b o,b≠X.env.locals->b ∉ X.fs->b ∉ ch->s.heap.get? b=some o->H b=none->h'.get? b=some o)
 (slot:∀b o,b≠X.env.locals->b∈X.fs->b ∉ ch->s.heap.get? b=some o->H b=none->∃sl,h'.get? b=some { o with slots:=sl }) (free:∀b o,b ∉ ch->s.heap.get? b=some o->H b=none->H' b=none)
 (there:∀b o,b ∉ ch->s.heap.get? b=some o->∃o',h'.get? b=some o')
 (tups:∀b xs,H b=some 7e3->H' b=some 7e3) (frzs:∀b o u,H b=some (.frz o u)->H' b=some (.frz o u)) (tbls:∀b ps,H b=some (.tbl ps)->∃more,H' b=some (.tbl (ps++more)))
 (ns:∀m,s.heap.Ns X.env.locals m->h'.Ns X.env.locals m) (hok:HOk X.prog X.w H' h') (hg:Mu g') :
 Inv X pins σ H' { s with heap:=h',gens:=g',drawn:=d',toks:=t' }:=by
 have neL:∀b o,X.s₀.heap.get? b=some o->b≠X.env.locals:=λb o e=>Qz (QE (Qs e) I.ok.above)
 have neC:∀b o,X.s₀.heap.get? b=some o->b ∉ X.ex->b ∉ ch:=λb o e hx hb=>by
  rcases(hch b hb).1 with z|z
  .exact hx z
  .exact absurd (QE (Qs e) z) (Zi _)
 have cellK:∀x c,X.env.cells.lookup x=some c->∀v,s.heap.IsCell c v->h'.IsCell c v:=λx c e v ⟨o,ho,hd⟩=>by
  have nch:c ∉ ch:=λz=>(hch c z).2.2.1 x c e rfl
  by_cases hc:c∈X.fs
  .obtain⟨sl,q⟩:=slot c o (I.cne x c e) hc nch ho (I.freeC x c e);exact⟨_,q,hd⟩
  .exact⟨o,keep c o (I.cne x c e) hc nch ho (I.freeC x c e),hd⟩
 refine⟨I.ok,I.os,hg,⟨λb o e n hb hx=>?_,λb o e n hb hx=>?_,λb o e n hx=>?_,λb o e hx=>?_,λb xs e=>tups b xs (I.base.tups b xs e),λb o xs e=>frzs b o xs (I.base.frzs b o xs e),λb ps e=>?_⟩,?_,λx c e=>?_,?_,λx c e=>?_,λp hp=>?_,hok,I.len⟩
 .exact keep b o (neL b o e) hb (neC b o e hx) (I.base.keep b o e n hb hx) (I.base.free b o e n hx)
 .obtain⟨sl,e1⟩:=I.base.slot b o e n hb hx;obtain⟨sl',e2⟩:=slot b _ (neL b o e) hb (neC b o e hx) e1 (I.base.free b o e n hx);exact⟨sl',e2⟩
 .obtain⟨o',e1⟩:=I.base.there b o e hx;exact free b o' (neC b o e hx) e1 (I.base.free b o e n hx)
 .obtain⟨o',e1⟩:=I.base.there b o e hx;exact there b o' (neC b o e hx) e1
 .obtain⟨m1,e1⟩:=I.base.tbls b ps e;obtain⟨m2,e2⟩:=tbls b _ e1;exact⟨m1++m2,by rw[e2,Array.append_assoc]⟩
 .obtain⟨m,hn,hl⟩:=I.loc;refine⟨m,ns m hn,λi x v e1 e2 e3=>?_⟩;obtain⟨u,r,l⟩:=hl i x v e1 e2 e3;refine⟨u,r,?_⟩;rcases l with l|⟨k,c,e,z⟩
  .exact .inl l
  .exact .inr ⟨k,c,e,cellK x c e _ z⟩
 .obtain⟨v,z⟩:=I.cell x c e;exact⟨v,cellK x c e v z⟩
 .obtain⟨m,⟨o,_,_,ho,_⟩,_⟩:=I.loc;exact free _ o (λz=>(hch _ z).2.1 rfl) ho I.free
 .obtain⟨v,o,ho,hd⟩:=I.cell x c e;exact free c o (λz=>(hch c z).2.2.1 x c e rfl) ho (I.freeC x c e)
 .obtain⟨e,n,ne,nf,d⟩:=I.pin p hp;have nch:p.1 ∉ ch:=λz=>(hch p.1 z).2.2.2 p hp rfl;exact⟨keep p.1 p.2 ne nf nch e n,free p.1 p.2 nch e n,ne,nf,d⟩
theorem Inv.un{t':Nat}(I:0.6)(u:Un X.fs [] H H' s.heap h')(hok:HOk X.prog X.w H' h'):Inv X pins σ H' 2e3:=by
 obtain⟨m,⟨o,es,ep,ho,r⟩,_⟩:=id I.loc;obtain⟨sl,hL⟩:=u.any ho I.free 0.3
 exact I.step (g':=s.gens) (d':=s.drawn) (ch:=[]) (λ_ z=>nomatch z) (λb o _ hb _ e n=>u.keep b o e n hb 0.3) (λb o _ hb _ e n=>u.slot b o e n hb 0.3) (λb o _ e n=>u.free b o e n 0.3) (λb o _ e=>u.there b o e 0.3) u.tups u.frzs u.tbls (λm' hm=>by
  obtain⟨o',es',ep',ho',r'⟩:=hm;rw[ho] at ho';cases ho'
  exact⟨_,es',ep',hL,r'⟩) hok I.bare
theorem Inv.call{t':Nat}(I:0.6)(u:Un (frs X.stack) ch H H' s.heap h')(hok:HOk X.prog X.w H' h')(hg:Mu g')
 (hch:13.2) :
 Inv X pins σ H' { s with heap:=h',gens:=g',drawn:=d',toks:=t' }:=by
 obtain⟨m,⟨o,es,ep,ho,r⟩,_⟩:=id I.loc;obtain⟨sl,hL⟩:=u.any ho I.free λz=>(hch _ z).2.1 rfl
 exact I.step (ch:=ch) hch (λb o hL hb hc e n=>u.keep b o e n (λz=>(Q2.mp (I.stkSub b z)).elim hL hb) hc) (λb o _ _ hc e n=>u.any e n hc) (λb o hc e n=>u.free b o e n hc) (λb o hc e=>u.there b o e hc) u.tups u.frzs u.tbls (λm' hm=>by
  obtain⟨o',es',ep',ho',r'⟩:=hm;rw[ho] at ho';cases ho'
  exact⟨_,es',ep',hL,r'⟩) hok hg
theorem Inv.turned{t':Nat}(I:0.6)(k:∀b o,b≠it->s.heap.get? b=some o->h'.get? b=some o)(hn:H it=none)(hL:it≠X.env.locals)
 (h1:it∈X.ex\/X.s₀.heap.objs.size<=it) (h2:∀x c,X.env.cells.lookup x=some c->c≠it) (h3:∀p∈X.pn++pins,p.1≠it):Inv X pins σ H 2e3:=by
 have nit:∀b u,H b=some u->b≠it:=λb u e z=>by rw[z,hn] at e;cases e
 refine I.step (g':=s.gens) (d':=s.drawn) (ch:=[it]) (λb hb=>?_) (λb o _ _ hc e _=>k b o 10.1 e) (λb o _ _ hc e _=>⟨o.slots,k b o 10.1 e⟩) (λ_ _ _ _ n=>n)
  (λb o hc e=>⟨o,k b o 10.1 e⟩) (λ_ _ e=>e) (λ_ _ _ e=>e) (λb ps e=>⟨#[],by rw[e];simp⟩) (λm hm=>?_) (λb u e=>?_) I.bare
 .have e:b=it:=by simpa using hb
  subst e;exact⟨h1,hL,h2,h3⟩
 .obtain⟨o,es,ep,ho,r⟩:=hm;exact⟨o,es,ep,k _ o (ZD hL) ho,r⟩
 .refine(I.hok b u e).stay (λc v hc q=>k c v ?_ q) (λ_ q=>q) λ_ _ q=>q;rcases hc with z|z
  .rw[z];exact nit b u e
  .exact nit c _ z
theorem Inv.tok(I:0.6)(t:Nat):Inv X pins σ H { s with toks:=t }:=I.un (h':=s.heap) (t':=t) Un.refl I.hok
theorem Inv.kept{t':Nat}(I:0.6)(k:∀b u,s.heap.get? b=some u->h'.get? b=some u):Inv X pins σ H 2e3:=I.un (Un.kept k) (I.hok.kept k)
theorem Inv.laid{t':Nat}(I:0.6)(k:∀b u,s.heap.get? b=some u->h'.get? b=some u)(hp:s.heap.objs.size<=a)(new:ObjOk X.prog X.w 16.8 h' a o):
 Inv X pins σ 16.8 2e3:=I.un (Un.laid k hp (I.hok.fresh hp)) (I.hok.laid k hp new)
theorem Inv.write{t':Nat}(I:0.6)(mu:Mut (H x))(he:e=x\/H e=some (.own x))(k:∀b u,b≠e->s.heap.get? b=some u->h'.get? b=some u)(heo:∃u,h'.get? e=some u)
 (new:ObjOk X.prog X.w (upd H x o) h' x o):Inv X pins σ (upd H x o) 2e3:=I.un (Un.write mu he k heo) (I.hok.write mu he k heo new)
theorem Inv.weak(I:0.6)(hl:σ'.length=σ.length)(w:∀(i:Nat) v,σ'[i]? = some 3e6->σ[i]? = some 3e6):Inv X pins σ' H s :=
 ⟨I.ok,I.os,I.bare,I.base,let ⟨m,hn,hl'⟩:=I.loc;⟨m,hn,λi x v e1 e2 e3=>hl' i x v e1 (w i v e2) e3⟩,I.cell,I.free,I.freeC,I.pin,I.hok,hl.trans I.len⟩
theorem Inv.pins_of{pins':1.1}(I:0.6)(h:∀p∈pins',s.heap.get? p.1=some p.2/\H p.1=none/\p.1≠X.env.locals/\p.1 ∉ X.fs/\∀v,p.2.data≠.cell v):Inv X pins' σ H s :=
 ⟨I.ok,I.os,I.bare,I.base,I.loc,I.cell,I.free,I.freeC,λp hp=>(Qx.mp hp).elim (λz=>I.pin p (QT _ z)) (h p),I.hok,I.len⟩
theorem zrd{N:2.4}(hN:N.Nodup){i j:Nat}{x:Str}(a:N[i]? = some x)(b:N[j]? = some x):i=j:=by
 obtain⟨h1,e1⟩:=Qc.mp a;obtain⟨h2,e2⟩:=Qc.mp b;exact(List.getElem_inj hN).mp (e1.trans e2.symm)
theorem znr{i:Nat}(I:0.6)(hN:X.N.Nodup)(hi:X.N[i]? = some x)(hx:19.3)(r:RelV v u)
 (h:∀s',Inv X pins 25.9 H s'->(∃a,ZV a s.heap s'.heap/\(a=X.env.locals\/X.env.cells.lookup x=some a))->Q () s') (hf:1e9:=by first|exact .inl rfl|exact .inr rfl|assumption):wpAny M A (storeName X.env x u) Q E s:=by
 obtain⟨m,hn,hl⟩:=id I.loc;have hcls:(X.env.scope.kind == .class || (X.env.scope.kind == .module && X.env.locals != X.env.globals))=false:=by rw[I.ok.kind];rfl
 have hiσ:i<σ.length:=by rw[I.len];exact(Qc.mp hi).1
 have cne:=I.cne
 have tracked:∀{a:Addr} {h':Heap},(∃o,s.heap.get? a=some o/\H a=none)->ZV a s.heap h'->HOk X.prog X.w H h':=λ{a h'} ha hs b ob e=>by
  obtain⟨_,_,hfree⟩:=ha;refine(I.hok b ob e).stay (λc w' hc q=>(hs.2 c ?_).trans q) (λ_ q=>q) λ_ _ q=>q;rintro rfl;rcases hc with rfl|hc
  .rw[hfree] at e;cases e
  .rw[hfree] at hc;cases hc
 rcases hx with hk|hk
 .refine wpAny_storeName_local hk hn (λh' hn' hs=>?_) hcls;obtain⟨oL,_,_,hoL,_⟩:=id hn;refine h _ ⟨I.ok,I.os,I.bare,⟨λb o e n hb hx=>?_,λb o e n hb hx=>?_,I.base.free,λb o e hx=>?_,I.base.tups,I.base.frzs,I.base.tbls⟩,⟨_,hn',λj y v' e1 e2 e3=>?_⟩,λy c e=>?_,I.free,I.freeC,λp hp=>?_,tracked ⟨oL,hoL,I.free⟩ hs,by simpa using I.len⟩ ⟨_,hs,.inl rfl⟩
  .exact(hs.2 b (Qz (QE (Qs e) I.ok.above))).trans (I.base.keep b o e n hb hx)
  .obtain⟨sl,e1⟩:=I.base.slot b o e n hb hx;exact⟨sl,(hs.2 b (Qz (QE (Qs e) I.ok.above))).trans e1⟩
  .obtain⟨o',e1⟩:=I.base.there b o e hx;exact⟨o',(hs.2 b (Qz (QE (Qs e) I.ok.above))).trans e1⟩
  .by_cases hj:j=i
   .subst hj;rw[hi] at e1;cases e1;rw[QC hiσ] at e2;cases e2;exact⟨u,r,.inl ⟨hk,by simp⟩⟩
   .rw[QM (ZD hj)] at e2;obtain⟨u',r',q⟩:=hl j y v' e1 e2 e3;refine⟨u',r',?_⟩;rcases q with ⟨k,e⟩|⟨k,c,e,z⟩
    .refine .inl ⟨k,?_⟩;have:y≠x:=λe=>hj (zrd hN e1 (e ▸ hi));simp[this,e]
    .exact .inr ⟨k,c,e,z.sameBut hs (cne y c e)⟩
  .obtain⟨w',z⟩:=I.cell y c e;exact⟨w',z.sameBut hs (cne y c e)⟩
  .obtain⟨e,n,ne,nf,d⟩:=I.pin p hp;exact⟨(hs.2 p.1 ne).trans e,n,ne,nf,d⟩
 .have hfn:X.fn x=true:=by
   rcases hf with z|z
   .exact z
   .rw[z] at hk;cases hk
  obtain⟨c,hc⟩:=I.ok.has x (.inl hk);obtain⟨w',z⟩:=I.cell x c hc;refine wpAny_storeName_cell I.ok.kind hk hc z (λh' hc' hs=>?_);obtain⟨oc,hoc,hocd⟩:=id z;refine h 3.9 ⟨I.ok,I.os,I.bare,⟨λb o e n hb hx=>?_,λb o e n hb hx=>?_,I.base.free,λb o e hx=>?_,I.base.tups,I.base.frzs,I.base.tbls⟩,⟨m,hn.sameBut hs (ZD (cne x c hc)),λj y v' e1 e2 e3=>?_⟩,λy c' e=>?_,I.free,I.freeC,λp hp=>?_,tracked ⟨oc,hoc,I.freeC x c hc⟩ hs,by simpa using I.len⟩ ⟨c,hs,.inr hc⟩
  .exact(hs.2 b (Qz (QE (Qs e) (I.ok.cab x c hfn hc)))).trans (I.base.keep b o e n hb hx)
  .obtain⟨sl,e1⟩:=I.base.slot b o e n hb hx;exact⟨sl,(hs.2 b (Qz (QE (Qs e) (I.ok.cab x c hfn hc)))).trans e1⟩
  .obtain⟨o',e1⟩:=I.base.there b o e hx;exact⟨o',(hs.2 b (Qz (QE (Qs e) (I.ok.cab x c hfn hc)))).trans e1⟩
  .by_cases hj:j=i
   .subst hj;rw[hi] at e1;cases e1;rw[QC hiσ] at e2;cases e2;exact⟨u,r,.inr ⟨.inl hk,c,hc,hc'⟩⟩
   .rw[QM (ZD hj)] at e2;obtain⟨u',r',q⟩:=hl j y v' e1 e2 e3;refine⟨u',r',?_⟩;rcases q with q|⟨k,c',e,z'⟩
    .exact .inl q
    .refine .inr ⟨k,c',e,z'.sameBut hs ?_⟩;rintro rfl;exact hj (zrd hN e1 (I.ok.inj _ _ _ e hc ▸ hi))
  .by_cases hcc:c'=c
   .subst hcc;exact⟨_,hc'⟩
   .obtain⟨w2,z2⟩:=I.cell y c' e;exact⟨w2,z2.sameBut hs hcc⟩
  .obtain⟨e,n,ne,nf,d⟩:=I.pin p hp;refine⟨(hs.2 p.1 ?_).trans e,n,ne,nf,d⟩;intro q;rw[q,hoc] at e;have q':oc=p.2:=Zy e;exact d w' (by rw[<- q'];exact hocd)
theorem ze0{i:Nat}(I:0.6)(hN:X.N.Nodup)(hi:X.N[i]? = some x)(hx:19.3)(r:RelV v u)
 (h:∀s',Inv X pins 25.9 H s'->Q () s') (hf:1e9:=by first|exact .inl rfl|exact .inr rfl|assumption):wpAny M A (storeName X.env x u) Q E s :=
 znr I hN hi hx r (λs' I' _=>h s' I') hf
theorem Inv.call'(I:0.6)(ho:s'.os=s.os)(u:Un (frs X.stack) ch H H' s.heap s'.heap)(hok:HOk X.prog X.w H' s'.heap)(hg:Mu s'.gens)
 (hch:13.2):Inv X pins σ H' s':=by
 obtain⟨h',g',d',t',o'⟩:=s';have e:o'=s.os:=ho;subst e;exact I.call (g':=g') (t':=t') (d':=d') u hok hg hch
end
abbrev XK:=GE->Option Addr->Hp->Prop
abbrev St:=List (Option V)
abbrev VK:=V->Hp->Prop
abbrev TE:=St->Hp->VK->Prop
abbrev TT:=St->Hp->(Bool->Hp->Prop)->Prop
abbrev TA:=St->Hp->(List V->Hp->Prop)->Prop
structure Ends where
 nx:St->Hp->Prop
 rt:VK
 bk:St->Hp->Prop:=λ_ _=>False
 ct:St->Hp->Prop:=λ_ _=>False
abbrev TS:=Ends->St->Hp->Prop
def EP(X:Cx)(pins:1.1)(σ:St)(Q:VK)(u:GE)(s':GH):Prop:=∃v H',Inv X pins σ H' s'/\RelV v u/\Q v H'
def TP(X:Cx)(pins:1.1)(σ:St)(Q:Bool->Hp->Prop)(b:Bool)(s':GH):Prop:=∃H',Inv X pins σ H' s'/\Q b H'
def AP(X:Cx)(pins:1.1)(σ:St)(Q:List V->Hp->Prop)(us:2.8)(s':GH):Prop:=∃vs H',Inv X pins σ H' s'/\Vals vs us/\Q vs H'
def SP(X:Cx)(pins:1.1)(D:Ends)(f:Flow)(s':GH):Prop :=
 match f with
 | .next=>∃σ' H',Inv X pins σ' H' s'/\D.nx σ' H'
 | .brk=>∃σ' H',Inv X pins σ' H' s'/\D.bk σ' H'
 | .cont=>∃σ' H',Inv X pins σ' H' s'/\D.ct σ' H'
 | .ret u=>∃v σ' H',Inv X pins σ' H' s'/\RelV v u/\D.rt v H'
def PE(X:Cx)(e:Expr)(t:TE):Prop :=
 ∀(pins:1.1) (s:GH) (σ:St) (H:Hp) (Q:VK),Inv X pins σ H s->t σ H Q->wpAny 0.5 X.A (eval e X.env) 7.0 X.xe s
def PT(X:Cx)(e:Expr)(t:TT):Prop :=
 ∀(pins:1.1) (s:GH) (σ:St) (H:Hp) (Q:Bool->Hp->Prop),Inv X pins σ H s->t σ H Q->wpAny 0.5 X.A (isTrue e X.env (eval e X.env)) (TP X pins σ Q) X.xe s
def PW(X:Cx)(e:Expr)(t:TT):Prop :=
 ∀(whole:Sem GE) (pins:1.1) (s:GH) (σ:St) (H:Hp) (Q:Bool->Hp->Prop),Inv X pins σ H s->t σ H Q->wpAny 0.5 X.A (isTrue e X.env whole) (TP X pins σ Q) X.xe s
theorem PW.pt(h:PW X e t):PT X e t:=h _
def PA(X:Cx)(es:8.6)(t:TA):Prop :=
 ∀(pos:Pos) (pins:1.1) (s:GH) (σ:St) (H:Hp) (Q:List V->Hp->Prop),Inv X pins σ H s->t σ H Q->wpAny 0.5 X.A (Mm (Tg pos 22.8)) (AP X pins σ Q) X.xe s
def PS(X:Cx)(st:Stmt)(t:TS):Prop :=
 ∀(pins:1.1) (s:GH) (σ:St) (H:Hp) (D:Ends),Inv X pins σ H s->t D σ H->wpAny 0.5 X.A (exec st X.env) (SP X pins D) X.xe s
def PSs(X:Cx)(st:6e0)(t:TS):Prop :=
 ∀(pins:1.1) (s:GH) (σ:St) (H:Hp) (D:Ends),Inv X pins σ H s->t D σ H->wpAny 0.5 X.A (execs st X.env) (SP X pins D) X.xe s
theorem thn{α:Type}{t:Sem α}{Q Q':α->GH->Prop}{s:GH}(h:wpAny M A t Q E s)(hQ:∀a s,Q a s->Q' a s):wpAny M A t Q' E s:=GQ h hQ λ_ _ x=>x
section
variable {X:Cx}
def tVar(i:Nat):TE:=λσ H Q=>∃v,σ[i]? = some 3e6/\Q v H
def tC(v:V):TE:=λ_ H Q=>Q v H
theorem zaj{i:Nat}(hN:X.N[i]? = some x)(hv:Vis X.env.scope x)(hd:1.5:=by decide)(hcd:6.4:=by decide):PE X 17.1 (tVar i):=by
 intro pins s σ H Q I h;obtain⟨v,e,h⟩:=h;obtain⟨m,hn,hl⟩:=I.loc;obtain⟨u,r,l⟩:=hl i x v hN e hv;have fin:EP X pins σ Q u s:=⟨v,H,I,r,h⟩;rcases l with ⟨hk,hm⟩|⟨hk,c,hc,hcell⟩
 .exact wpAny_Name (MX I.ok.kind hk hn hm fin) hd
 .rcases hk with hk|hk
  .exact wpAny_Name (wpAny_loadName_cell I.ok.kind hk hc hcell fin) hd
  .exact wpAny_Name (wpAny_loadName_free I.ok.kind hk hc hcell fin hcd) hd
theorem za2{i j pos}:PE X (.Constant 1e2 j pos) (tC 1e2):=λ_ _ _ H _ I h=>wpAny_Constant_int ⟨.int i,H,I.tok _,⟨_,rfl⟩,h⟩
theorem z3b{b j pos}:PE X (.Constant 9e2 j pos) (tC (.bl b)):=λ_ _ _ H _ I h=>Constant_bool ⟨.bl b,H,I,rfl,h⟩
theorem ycr{j pos}:PE X (.Constant .none j pos) (tC .non):=λ_ _ _ H _ I h=>Constant_none ⟨.non,H,I,rfl,h⟩
theorem zbk{x j pos}:PE X (.Constant 0e2 j pos) (tC 0e2):=λ_ _ _ H _ I h=>Vg ⟨.str x,H,I.tok _,⟨_,rfl⟩,h⟩
def Gl(X:Cx)(x:Str):Prop:=X.env.kindOf x=some .globalImplicit
theorem zdo{pins:1.1}{s:GH}(I:0.6)(hg:Gl X x)(hm:X.mg x=some u)(h:Q u s)
 (hd:1.5:=by decide):wpAny 0.5 X.A (eval 17.1 X.env) Q E s :=
 Vh I.ok.kind hg (Calls.loadGlobal_global (by rw[I.ok.glob];exact I.mod.glob.keeps I.bk) hm h) hd
theorem zbt{pins:1.1}{s:GH}(I:0.6)(hg:Gl X x)(hm:X.mg x=none)(hv:GY x=some u)(h:Q u s)
 (hn:20.9 := by decide) (hd:1.5:=by decide):wpAny 0.5 X.A (eval 17.1 X.env) Q E s:=by
 obtain⟨mb,h1,h2⟩:=I.mod.blt;exact Vh I.ok.kind hg (Calls.loadGlobal_builtin (by rw[I.ok.glob];exact I.mod.glob.keeps I.bk) hm (by rw[I.ok.blt];exact h1.keeps I.bk) ((h2 x hn).trans hv) h) hd
variable {a b:Expr}{ta tb:TE}{pos:Pos}
def PC(X:Cx)(op:CmpOp)(a b:Expr)(t:TE):Prop :=
 ∀(pins:1.1) (s:GH) (σ:St) (H:Hp) (Q:VK),Inv X pins σ H s->t σ H Q ->
   wpAny 0.5 X.A (eval a X.env) (λv s₁=>wpAny 0.5 X.A (eval b X.env) (λu s₂=>wpAny 0.5 X.A (GT op v u) 7.0 X.xe s₂) X.xe s₁) X.xe s
def tB(t:TE):TT:=λσ H Q=>t σ H λx H1=>∃c,x = .bl c/\Q c H1
theorem zwb(h:PC X op a b t)(h1:Tf op b=false:=by first|exact nobehind _ 0.4 0.4|rfl):PT X 19.1 (tB t):=by
 intro pins s σ H Q I hw;refine MR (thn (h pins s σ H _ I hw) λv s1 h1=>thn h1 λu s2 h2=>thn h2 λc s3 zz=>?_) h1;obtain⟨x,H1,I1,r1,q1⟩:=zz;obtain⟨d,rfl,q⟩:=q1;cases r1;exact Tj ⟨H1,I1,q⟩
theorem ybg(h:PE X e t)(he:∀whole,isTrue e X.env whole=(do let v <- whole;standAt e.pos;holding [v] (truthy v)):=by intro _;rfl):PT X e (tB t):=by
 intro pins s σ H Q I hw;refine isTrue_plain (thn (h pins s σ H _ I hw) λv s1 zz=>?_) (he _);obtain⟨x,H1,I1,r1,q1⟩:=zz;obtain⟨d,rfl,q⟩:=q1;cases r1;exact Tj ⟨H1,I1,q⟩
variable {tA tB':TT}{rest:8.6}
def tAnd(t u:TT):TT:=λσ H Q=>t σ H λc H1=>if c=true then u σ H1 Q else Q false H1
def tOr(t u:TT):TT:=λσ H Q=>t σ H λc H1=>if c=true then Q true H1 else u σ H1 Q
def tNot(t:TT):TT:=λσ H Q=>t σ H λc H1=>Q (!c) H1
theorem zsd(ha:PT X a tA):PW X (.BoolOp .And [a] pos) tA:=by
 intro wh pins s σ H Q I h;refine isTrue_and (thn (ha pins s σ H Q I h) λc s1 e=>?_)
 cases c with
 | true=>exact isTrue_and_nil e
 | false=>exact e
theorem yce(ha:PT X a tA):PW X (.BoolOp .Or [a] pos) tA:=by
 intro wh pins s σ H Q I h;refine isTrue_or (thn (ha pins s σ H Q I h) λc s1 e=>?_)
 cases c with
 | false=>exact isTrue_or_nil e
 | true=>exact e
theorem zzd(ha:PT X a tA)(hb:PW X 27.1 tB'):PW X 24.2 (tAnd tA tB'):=by
 intro wh pins s σ H Q I h;refine isTrue_and (thn 8.1 λc s1 zz=>?_);obtain⟨H1,I1,q1⟩:=zz
 cases c with
 | true=>exact hb wh pins s1 σ H1 Q I1 q1
 | false=>exact⟨H1,I1,q1⟩
theorem yd4(ha:PT X a tA)(hb:PW X (.BoolOp .Or (b::rest) pos) tB'):PW X (.BoolOp .Or (a::b::rest) pos) (tOr tA tB'):=by
 intro wh pins s σ H Q I h;refine isTrue_or (thn 8.1 λc s1 zz=>?_);obtain⟨H1,I1,q1⟩:=zz
 cases c with
 | true=>exact⟨H1,I1,q1⟩
 | false=>exact hb wh pins s1 σ H1 Q I1 q1
theorem yb2(ha:PT X a tA):PT X (.UnaryOp .Not a pos) (tNot tA):=by
 intro pins s σ H Q I h;exact isTrue_not (ha pins s σ H (λc H1=>Q (!c) H1) I h)
def z3t(ta tb:TE):TE:=λσ H Q=>ta σ H λx H1=>∃c,x = .bl c/\if c=true then tb σ H1 Q else Q (.bl false) H1
def zov(ta:TE):TE:=λσ H Q=>ta σ H λx H1=>∃c,x = .bl c/\Q (.bl (!c)) H1
theorem ybn{op}(h:PE X a t):PE X (.BoolOp op [a] pos) t:=λpins s σ H Q I hw=>BoolOp_one (h pins s σ H Q I hw)
theorem yc0(ha:26.0)(hb:PE X 27.1 tb):PE X 24.2 (z3t ta tb):=by
 intro pins s σ H Q I h;refine BoolOp_and (thn 8.1 λv s1 zz=>?_);obtain⟨x,H1,I1,r1,q1⟩:=zz;obtain⟨c,rfl,q1⟩:=q1;cases r1;refine Tj ?_
 cases c with
 | true=>exact hb pins s1 σ H1 Q I1 q1
 | false=>exact⟨.bl false,H1,I1,rfl,q1⟩
theorem zvt(ha:26.0):PE X (.UnaryOp .Not a pos) (zov ta):=by
 intro pins s σ H Q I h;refine UnaryOp_ (thn 8.1 λv s1 zz=>?_);obtain⟨x,H1,I1,r1,q1⟩:=zz;obtain⟨c,rfl,q1⟩:=q1;cases r1;exact not_of (Tj ⟨.bl (!c),H1,I1,rfl,q1⟩)
def tIf(t:TT)(ta tb:TE):TE:=λσ H Q=>t σ H λc H1=>if c=true then ta σ H1 Q else tb σ H1 Q
theorem z0e{c:Expr}(hc:PT X c tA)(ha:26.0)(hb:PE X b tb):PE X (.IfExp c a b pos) (tIf tA ta tb):=by
 intro pins s σ H Q I h;refine wpAny_IfExp (thn (hc pins s σ H _ I h) λd s1 zz=>?_);obtain⟨H1,I1,q1⟩:=zz
 cases d with
 | true=>exact ha pins s1 σ H1 Q I1 q1
 | false=>exact hb pins s1 σ H1 Q I1 q1
end
def SqL(K:Qa)(H:Hp)(a:Addr)(xs:5.4):Prop :=
 Rd H a 2.3 \/
  ∃(o:Obj) (its:10.3) (n:Nat),K.lookup a=some o/\o.cls = .type "list" /\ o.dict=none/\o.data = .seq its n/\its.size<=sizeLine/\Vals xs its.toList
def SqT(K:Qa)(H:Hp)(a:Addr)(xs:5.4):Prop :=
 Rd H a 7e3 \/
  ∃(o:Obj) (its:10.3) (n:Nat),K.lookup a=some o/\o.cls = .type "tuple" /\ o.data = .seq its n/\its.size<=sizeLine/\Vals xs its.toList
def absV:GE->Option V
 | .none=>some .non
 | .bool b=>some (.bl b)
 | .int i _=>some 1e2
 | .str x _=>some 0e2
 | .bytes b _=>some (.byt b)
 | .float b _=>some (.flt b)
 | .ref a=>some 3.0
 | .type n=>some (.ty n)
 | _=>none
theorem RelV.abs(r:RelV x u):absV u=some x:=by
 cases x with
 | non=>cases r;rfl
 | bl _=>cases r;rfl
 | int _=>obtain⟨t,rfl⟩:=r;rfl
 | str _=>obtain⟨t,rfl⟩:=r;rfl
 | byt _=>obtain⟨t,rfl⟩:=r;rfl
 | flt _=>obtain⟨t,rfl⟩:=r;rfl
 | ref _=>cases r;rfl
 | ty _=>cases r;rfl
theorem RelV.inj(r:RelV x u)(q:RelV y u):x=y:=Zy (r.abs.symm.trans q.abs)
theorem Vals.inj:∀{xs ys:5.4} {us:2.8},Vals xs us->Vals ys us->xs=ys
 | _,_,_,.nil,.nil=>rfl
 | _,_,_,.cons r t,.cons r' t'=>by rw[r.inj r',Vals.inj t t']
section
variable {X:Cx}{pins:1.1}{σ:St}{H:Hp}{s:GH}{a:Addr}{xs ys:5.4}
theorem SqL.of{K:Qa}(h:H a=some 2.3):SqL K H a xs:=.inl (.inl h)
theorem SqT.of{K:Qa}(h:H a=some 7e3):SqT K H a xs:=.inl (.inl h)
theorem Inv.list(I:0.6)(h:SqL X.K H a xs):∃its:List GE,Vals xs its/\PlainL s.heap a its.toArray/\xs.length<=sizeLine:=by
 rcases h with h|⟨o,its,n,hk,hc,hd,hs,hz,r⟩
 .obtain⟨z,its,n,r,e⟩:=h.ok I.hok;exact⟨its,r,⟨_,n,e,rfl,rfl,rfl⟩,z⟩
 .refine⟨its.toList,r,⟨o,n,I.kIn a o hk,hc,hd,by simpa using hs⟩,?_⟩;have e:=r.length;simp only[Jf] at e;lia
theorem Inv.tuple(I:0.6)(h:SqT X.K H a xs):∃its:List GE,Vals xs its/\IsTup s.heap a its.toArray/\xs.length<=sizeLine:=by
 rcases h with h|⟨o,its,n,hk,hc,hs,hz,r⟩
 .obtain⟨z,its,r,p⟩:=h.ok I.hok;exact⟨its,r,p,z⟩
 .refine⟨its.toList,r,⟨o,I.kIn a o hk,hc,n,by simpa using hs⟩,?_⟩;have e:=r.length;simp only[Jf] at e;lia
theorem Inv.list_inj(I:0.6)(h:SqL X.K H a xs)(h':SqL X.K H a ys):xs=ys:=by
 obtain⟨its,r,⟨o,n,e,_,_,d⟩,_⟩:=I.list h;obtain⟨its',r',⟨o',n',e',_,_,d'⟩,_⟩:=I.list h';rw[e] at e';cases e';rw[d] at d';injection d' with d1 _;have:its=its':=by simpa using NA G9 d1
 subst this;exact r.inj r'
theorem Inv.tuple_inj(I:0.6)(h:SqT X.K H a xs)(h':SqT X.K H a ys):xs=ys:=by
 obtain⟨its,r,⟨o,e,_,n,d⟩,_⟩:=I.tuple h;obtain⟨its',r',⟨o',e',_,n',d'⟩,_⟩:=I.tuple h';rw[e] at e';cases e';rw[d] at d';injection d' with d1 _;have:its=its':=by simpa using NA G9 d1
 subst this;exact r.inj r'
end
abbrev Cx.wish(X:Cx)(E:1.7):Cx:={ X with xe:=E }
abbrev Cx.nox(X:Cx):Cx:=X.wish λ_ _=>False
theorem Cx.Ok.wish{X:Cx}(ok:X.Ok)(E:1.7):(X.wish E).Ok :=
 ⟨ok.mod,ok.kind,ok.glob,ok.blt,ok.above,ok.inj,ok.has,ok.cab,ok.hd,ok.frames,ok.stk,ok.exf,ok.bs,ok.bsz,ok.noex,ok.exfs,ok.funs,ok.frf⟩
theorem Cx.Ok.unwish{X:Cx}{E:1.7}(ok:(X.wish E).Ok):X.Ok :=
 ⟨ok.mod,ok.kind,ok.glob,ok.blt,ok.above,ok.inj,ok.has,ok.cab,ok.hd,ok.frames,ok.stk,ok.exf,ok.bs,ok.bsz,ok.noex,ok.exfs,ok.funs,ok.frf⟩
section
variable {X:Cx}{pins:1.1}{σ:St}{H:Hp}{s:GH}{E:1.7}
theorem Inv.wish(I:0.6)(E:1.7):Inv (X.wish E) pins σ H s:=⟨I.ok.wish E,I.os,I.bare,I.base,I.loc,I.cell,I.free,I.freeC,I.pin,I.hok,I.len⟩
theorem Inv.unwish(I:Inv (X.wish E) pins σ H s):Inv X pins σ H s:=⟨I.ok.unwish,I.os,I.bare,I.base,I.loc,I.cell,I.free,I.freeC,I.pin,I.hok,I.len⟩
theorem SP.unwish(h:SP (X.wish E) pins D f s'):SP X pins D f s':=by
 cases f with
 | next=>obtain⟨σ',H',I,q⟩:=h;exact⟨σ',H',I.unwish,q⟩
 | brk=>obtain⟨σ',H',I,q⟩:=h;exact⟨σ',H',I.unwish,q⟩
 | cont=>obtain⟨σ',H',I,q⟩:=h;exact⟨σ',H',I.unwish,q⟩
 | ret u=>obtain⟨v,σ',H',I,r,q⟩:=h;exact⟨v,σ',H',I.unwish,r,q⟩
theorem PE.nox(h:PE X.nox e t):PE X e t:=λpins s σ H Q I hw=>
 GQ (h pins s σ H Q (I.wish _) hw) (λ_ _ ⟨v,H',I',r,q⟩=>⟨v,H',I'.unwish,r,q⟩) λ_ _ z=>Zr z
theorem PT.nox(h:PT X.nox e t):PT X e t:=λpins s σ H Q I hw=>
 GQ (h pins s σ H Q (I.wish _) hw) (λ_ _ ⟨H',I',q⟩=>⟨H',I'.unwish,q⟩) λ_ _ z=>Zr z
theorem PSs.nox{st:6e0}{t:TS}(h:PSs X.nox st t):PSs X st t:=λpins s σ H D I hw=>
 GQ (h pins s σ H D (I.wish _) hw) (λ_ _ q=>q.unwish) λ_ _ z=>Zr z
end
section
variable {X:Cx}{st:Stmt}{rest:6e0}{t u:TS}{e:Expr}{te:TE}{pos:Pos}
def zu6:TS:=λD σ H=>D.nx σ H
def tSeq(t u:TS):TS:=λD σ H=>t { D with nx:=u D } σ H
theorem zm3:PSs X [] zu6:=λ_ _ σ H _ I h=>TU ⟨σ,H,I,h⟩
theorem za9(h1:PS X st t)(h2:PSs X rest u):PSs X (st::rest) (tSeq t u):=by
 intro pins s σ H D I h;refine TZ (thn (h1 pins s σ H { D with nx:=u D } I h) λf s1 q=>?_)
 cases f with
 | next=>
   obtain⟨σ',H',I',q⟩:=q;exact h2 pins s1 σ' H' D I' q
 | ret v=>exact q
 | brk=>exact q
 | cont=>exact q
theorem zcj(h1:PS X st t):PSs X [st] t:=by
 intro pins s σ H D I h;refine TZ (thn (h1 pins s σ H D I h) λf s1 q=>?_)
 cases f with
 | next=>exact TU q
 | ret v=>exact q
 | brk=>exact q
 | cont=>exact q
theorem Inv.quiet{pins:1.1}{s:GH}(I:0.6):interactive X.env=false:=by simp[interactive,I.ok.kind]
def zbu(te:TE):TS:=λD σ H=>te σ H λ_ H1=>D.nx σ H1
theorem zdc(he:9e6)(hs:GV e none pos.line X.env=pure false:=by rfl):PS X (.Expr e pos) (zbu te):=by
 intro pins s σ H D I h;exact wpAny_Expr_any (thn 5.9 λv s1 ⟨x,H1,I1,r1,q1⟩=>⟨σ,H1,I1,q1⟩) I.quiet hs
def tRet(te:TE):TS:=λD σ H=>te σ H D.rt
theorem ze5(he:9e6):PS X (.Return (some e) pos) (tRet te):=by
 intro pins s σ H D I h;exact wpAny_Return_some (thn 5.9 λv s1 ⟨x,H1,I1,r1,q1⟩=>⟨x,σ,H1,I1,r1,q1⟩)
def tIfS(c:TT)(t u:TS):TS:=λD σ H=>c σ H λb H1=>if b=true then t D σ H1 else u D σ H1
theorem zou{c:Expr}(hc:PT X c tc)(ha:PSs X a t)(hb:PSs X b u):PS X (.If c a b pos) (tIfS tc t u):=by
 intro pins s σ H D I h;refine wpAny_If (thn (hc pins s σ H _ I h) λd s1 zz=>?_);obtain⟨H1,I1,q1⟩:=zz
 cases d with
 | true=>exact ha pins s1 σ H1 D I1 q1
 | false=>exact hb pins s1 σ H1 D I1 q1
end
abbrev TG:=V->St->Hp->(St->Hp->Prop)->Prop
abbrev TGs:=List V->St->Hp->(St->Hp->Prop)->Prop
def PG(X:Cx)(target:Expr)(t:TG):Prop :=
 ∀(pins:1.1) (s:GH) (σ:St) (H:Hp) (v:V) (u:GE) (Q:St->Hp->Prop),Inv X pins σ H s->RelV v u->t v σ H Q ->
   wpAny 0.5 X.A (MS target X.env u) (λ_ s'=>∃σ' H',Inv X pins σ' H' s'/\Q σ' H') X.xe s
def PGs(X:Cx)(ts:8.6)(t:TGs):Prop :=
 ∀(pins:1.1) (s:GH) (σ:St) (H:Hp) (vs:5.4) (us:2.8) (Q:St->Hp->Prop),Inv X pins σ H s->Vals vs us->t vs σ H Q ->
   wpAny 0.5 X.A (assignInOrder ((TJ ts X.env).map (·.2)) us) (λ_ s'=>∃σ' H',Inv X pins σ' H' s'/\Q σ' H') X.xe s
abbrev TIp:=V->V->Hp->VK->Prop
def PIp(X:Cx)(op:Operator)(t:TIp):Prop :=
 ∀(pins:1.1) (s:GH) (σ:St) (H:Hp) (x y:V) (v u:GE) (Q:VK),Inv X pins σ H s->RelV x v->RelV y u->t x y H Q ->
   wpAny 0.5 X.A (inplaceOp op v u) 7.0 X.xe s
section
variable {X:Cx}{pos:Pos}
def zau(i:Nat):TG:=λv σ H Q=>Q 25.9 H
theorem zet{i:Nat}(hN:X.N.Nodup)(hi:X.N[i]? = some x)(hx:19.3)(hf:1e9:=by first|exact .inl rfl|exact .inr rfl|assumption):PG X 17.1 (zau i):=by
 intro pins s σ H v u Q I r h;exact wpAny_assign_Name (ze0 I hN hi hx r (λs' I'=>⟨_,H,I',h⟩) hf)
def gNil:TGs:=λvs σ H Q=>vs = []/\Q σ H
def zkc(t:TG)(u:TGs):TGs:=λvs σ H Q=>∃v r,vs=v::r/\t v σ H λσ' H'=>u r σ' H' Q
theorem z7x:PGs X [] gNil:=by
 intro pins s σ H vs us Q I r h;obtain⟨e,h⟩:=h;subst e;cases r;exact assignInOrder_nil ⟨σ,H,I,h⟩
theorem z0u(h1:PG X e t)(h2:PGs X es u)
 (hs:(TJ 5e6 X.env).map (·.2)=MS e X.env::(TJ es X.env).map (·.2):=by rfl):PGs X 5e6 (zkc t u):=by
 intro pins s σ H vs us Q I r h;obtain⟨v,vr,e1,h⟩:=h;subst e1
 cases r with
 | cons r rr=>
   rw[hs];refine assignInOrder_cons (thn (h1 pins s σ H _ _ _ I r h) λ_ s1 zz=>?_);obtain⟨σ1,H1,I1,q1⟩:=zz;exact h2 pins s1 σ1 H1 _ _ Q I1 rr q1
def gTup(K:Qa)(n:Nat)(t:TGs):TG:=λv σ H Q=>∃a xs,v = .ref a/\SqT K H a xs/\xs.length=n/\t xs σ H Q
theorem ybf{k:Nat}{n:Nat}(hc:6e4)(h:PGs X es t)
 (hn:(TJ es X.env).length=n:=by rfl) (hst:(TJ es X.env).findIdx? (·.1)=none:=by rfl):PG X (.Tuple es k pos) (gTup X.K n t):=by
 intro pins s σ H v u Q I r hw;obtain⟨a,xs,e1,hq,hl,hw⟩:=hw;subst e1;cases r;obtain⟨its,rv,ht,hz⟩:=I.tuple hq;refine assign_Tuple_tuple 1e3 ht (by simp[hn,<- hl,rv.length]) hst λh' hx=>?_;have I1:Inv X pins σ H 3.9:=I.kept (t':=s.toks) λb o e=>hx b o (Qz (Qs e)) e;exact h pins _ σ H xs _ Q I1 (by simpa using rv) hw
def tAsg(te:TE)(g:TG):TS:=λD σ H=>te σ H λx H1=>g x σ H1 D.nx
theorem yak(he:9e6)(hg:PG X tg g)(hs:swapsWithSole [tg] e pos.line X.env=pure false:=by rfl)(hw:swappedStores [tg] e X.env=pure none:=by rfl)
 (h1:(TJ [tg] X.env).map (·.2) = [MS tg X.env]:=by rfl):PS X (.Assign [tg] e pos) (tAsg te g):=by
 intro pins s σ H D I h;refine wpAny_Assign_stores (thn 5.9 λv s1 zz=>?_) hs hw;obtain⟨x,H1,I1,r1,q1⟩:=zz;rw[h1];exact thn (hg pins s1 σ H1 x v _ I1 r1 q1) λ_ s2 q=>q
theorem zbm{i:Nat}{pos':Pos}(hN:X.N.Nodup)(hi:X.N[i]? = some x)(hx:19.3)(he:9e6)(hs:GV e (some (.Name x pos')) pos.line X.env=pure false:=by rfl)(hf:1e9:=by first|exact .inl rfl|exact .inr rfl|assumption):
 PS X (.Assign [.Name x pos'] e pos) (tAsg te (zau i)):=by
 intro pins s σ H D I h;refine M4 (thn 5.9 λv s1 zz=>?_) hs;obtain⟨y,H1,I1,r1,q1⟩:=zz;exact ze0 I1 hN hi hx r1 (λs2 I2=>⟨_,H1,I2,q1⟩) hf
def tAug(i:Nat)(te:TE)(ti:TIp):TS:=λD σ H=>∃x,σ[i]? = some (some x)/\te σ H λy H1=>ti x y H1 λz H2=>D.nx (σ.set i (some z)) H2
theorem yat{i:Nat}{pos':Pos}(hN:X.N.Nodup)(hi:X.N[i]? = some x)(hx:19.3)(he:9e6)(ho:PIp X op ti)(hf:1e9:=by first|exact .inl rfl|exact .inr rfl|assumption):
 PS X (.AugAssign (.Name x pos') op e pos) (tAug i te ti):=by
 intro pins s σ H D I h;obtain⟨v,e1,h⟩:=h;obtain⟨m,hn,hl⟩:=I.loc;have vis:Vis X.env.scope x:=by rcases hx with k|k;exact .inl k;exact .inr (.inl k)
 obtain⟨u,r,l⟩:=hl i x v hi e1 vis;refine wpAny_AugAssign_Name ?_
 have go:wpAny 0.5 X.A (eval e X.env) (λw s₂=>wpAny 0.5 X.A (inplaceOp op u w) (λr s₃=>wpAny 0.5 X.A (storeName X.env x r) (λ_=>SP X pins D .next) X.xe s₃) X.xe s₂) X.xe s:=by
  refine thn 5.9 λw s1 zz=>?_;obtain⟨y,H1,I1,r1,q1⟩:=zz;refine thn (ho pins s1 σ H1 v y u w _ I1 r r1 q1) λz s2 zz=>?_;obtain⟨zv,H2,I2,r2,q2⟩:=zz;exact ze0 I2 hN hi hx r2 (λs3 I3=>⟨_,H2,I3,q2⟩) hf
 rcases l with ⟨hk,hm⟩|⟨hk,c,hc,hcell⟩
 .exact MX I.ok.kind hk hn hm go
 .rcases hk with hk|hk
  .exact wpAny_loadName_cell I.ok.kind hk hc hcell go
  .rcases hx with k|k
   .have:X.env.scope.names.lookup x=some .free:=hk;rw[k] at this;cases this
   .have:X.env.scope.names.lookup x=some .free:=hk;rw[k] at this;cases this
def ipI(f:Int->Int->Int):TIp:=λx y H Q=>∃i j,x = .int i/\y = .int j/\Q (.int (f i j)) H
theorem ybt:PIp X .Add (ipI λi j=>i+j):=by
 intro pins s σ H x y v u Q I r1 r2 h;obtain⟨i,j,e1,e2,q⟩:=h;subst e1;subst e2;obtain⟨t,rfl⟩:=r1;obtain⟨t',rfl⟩:=r2;exact iadd_int 17.8
end
section
variable {X:Cx}{pos:Pos}
def zgg(c:TT)(tb:TS):TS:=λD σ H=>∃W:Nat->St->Hp->Prop,(∃m,W m σ H)/\∀m σ H,W m σ H ->
 c σ H λb H1=>if b=true then ∃N:St->Hp->Prop,(∀σ' H',N σ' H'->∃m',m'<m/\W m' σ' H')/\tb { D with nx:=N,ct:=N,bk:=D.nx } σ H1 else D.nx σ H1
theorem zjz{c:Expr}{body:6e0}(hp:Mx 0.5 X.A X.env X.xe)(hc:PT X c tc)(hb:PSs X body tb):PS X 23.9 (zgg tc tb):=by
 intro pins s σ H D I h;obtain⟨W,⟨m0,w0⟩,turn⟩:=h;refine wpAny_While (codeAny_whileLoop (λn s'=>∃σ' H',Inv X pins σ' H' s'/\W n σ' H') ?_ m0 ⟨σ,H,I,w0⟩);rintro n s1 ⟨σ1,H1,I1,w1⟩;refine Tr hp (thn (hc pins s1 σ1 H1 _ I1 (turn n σ1 H1 w1)) λb s2 zz=>?_);obtain⟨H2,I2,q2⟩:=zz
 cases b with
 | true=>
   obtain⟨N,hN,q2⟩:=q2;rw[N3 rfl];refine Tr hp (thn (hb pins s2 σ1 H2 _ I2 q2) λf s3 q3=>?_)
   cases f with
   | next=>
     obtain⟨σ3,H3,I3,n3⟩:=q3;obtain⟨m',hm,w3⟩:=hN σ3 H3 n3;exact⟨m',hm,σ3,H3,I3,w3⟩
   | cont=>
     obtain⟨σ3,H3,I3,n3⟩:=q3;obtain⟨m',hm,w3⟩:=hN σ3 H3 n3;exact⟨m',hm,σ3,H3,I3,w3⟩
   | brk=>exact q3
   | ret v=>exact q3
 | false=>
   rw[N4 Qt];exact TU ⟨σ1,H2,I2,q2⟩
end
structure It where
 go:Nat->Hp->Prop
 yld:Nat->Hp->V->Hp->Prop
 stop:Nat->Hp->Prop
def FpOk(X:Cx)(pins:1.1)(H:Hp)(b:Addr):Prop :=
 H b=none/\b≠X.env.locals/\b ∉ X.fs/\(b∈X.ex\/X.s₀.heap.objs.size<=b)/\(∀x c,X.env.cells.lookup x=some c->c≠b)/\∀p∈X.pn++pins,p.1≠b
theorem Inv.fpOk{pins:1.1}{s:GH}(I:0.6)(hb:s.heap.objs.size<=b)(hn:H' b=none):FpOk X pins H' b:=by
 refine⟨hn,ZM (QE I.lt hb),I.nofs hb,.inr (QF I.sz hb),λx c e z=>?_,λp hp z=>?_⟩
 .obtain⟨v,q⟩:=I.cell x c e;exact absurd (QE q.lt (by rw[z];exact hb)) (Zi _)
 .exact absurd (QE (Qs (I.pin p hp).1) (by rw[z];exact hb)) (Zi _)
structure Turn(P:GJ)(w:GL)(K:Qa)(tg:Expr)(J:It)(fp:3e9)(it:Addr)(tn:Nat->Heap->Prop):Prop where
 mem:it∈fp
 obj:∀i h,tn i h->∀b∈fp,∃o,h.get? b=some o/\∀v,o.data≠.cell v
 keep:∀i h h',tn i h->(∀b∈fp,∀o,h.get? b=some o->h'.get? b=some o)->tn i h'
 item:∀(X:Cx),X.prog=P->X.w=w->X.K=K->X.calm=true->∀(i:Nat) (pins:1.1) (s:GH) (σ:St) (H:Hp) (E:1.7),Inv X pins σ H s->(∀b∈fp,FpOk X pins H b)->tn i s.heap->J.go i H ->
  wpAny 2.5 X.A (M6 6.2) (λr s1=>∃u,r=some u /\
   wpAny 2.5 X.A (Mr tg 6.2 u) (λ_ s2=>∃x H',Inv X pins σ H' s2/\RelV x u/\J.yld i H x H'/\tn (i+1) s2.heap/\∀b∈fp,H' b=none) E s1) E s
 done:∀(X:Cx),X.prog=P->X.w=w->X.K=K->X.calm=true->∀(i:Nat) (pins:1.1) (s:GH) (σ:St) (H:Hp) (E:1.7),Inv X pins σ H s->(∀b∈fp,FpOk X pins H b)->tn i s.heap->J.stop i H ->
  wpAny 2.5 X.A (M6 6.2) (λr s1=>r=none/\Inv X pins σ H s1) E s
 self:∀(A:GN) (i:Nat) (s:GH) (Q:1.7) (E:1.7),tn i s.heap->Q 6.2 s->wpAny 2.5 A (MJ 6.2) Q E s
abbrev TI:=St->Hp->(It->Hp->Prop)->Prop
def PIE(X:Cx)(pins:1.1)(σ:St)(tg:Expr)(R:It->Hp->Prop)(itv:GE)(s2:GH):Prop :=
 ∃(it:Addr) (fp:3e9) (tn:Nat->Heap->Prop) (J:It) (H':Hp),itv = .ref it/\Inv X pins σ H' s2/\Turn X.prog X.w X.K tg J fp it tn/\tn 0 s2.heap/\(∀b∈fp,FpOk X pins H' b)/\R J H'
def PI(X:Cx)(tg iter:Expr)(wi:TI):Prop :=
 ∀(pins:1.1) (s:GH) (σ:St) (H:Hp) (R:It->Hp->Prop),Inv X pins σ H s->wi σ H R ->
   wpAny 0.5 X.A (eval iter X.env) (λv s1=>wpAny 0.5 X.A (MJ v) (PIE X pins σ tg R) X.xe s1) X.xe s
theorem zi3{s:GH}(ho:s.heap.get? it=some o)(hc:o.cls = .type n)(hd:o.data = .fields vs)
 (hn:["enumerate", "zip", "dict_itemiterator", "dict_reverseitemiterator", "odict_iterator", "itertools.zip_longest", "itertools.pairwise"].contains n=false) (hQ:Q () s):wpAny M A (Mr tg 6.2 u) Q E s:=by
 unfold Mr
 cases tg <;> first
  | exact GG hQ
  | (cases u <;> first
   | exact GG hQ
   | (refine GD (MN ho ?_)
      rw[hc,hd];show wpAny M A (if(["enumerate", "zip", "dict_itemiterator", "dict_reverseitemiterator", "odict_iterator", "itertools.zip_longest", "itertools.pairwise"].contains n && vs[0]? == some (rawInt _))=true then _ else _) Q E s;rw[N4 (by intro h;rw[hn,Ue] at h;cases h)]
      exact GG hQ))
def Itl(K:Qa)(a:Addr):It :=
 ⟨λi H=>∃xs x,SqL K H a xs/\xs[i]? = some x,λi H x H'=>H'=H/\∀xs,SqL K H a xs->xs[i]? = some x,λi H=>∃xs,SqL K H a xs/\xs.length<=i⟩
def Itt(K:Qa)(a:Addr):It :=
 ⟨λi H=>∃xs x,SqT K H a xs/\xs[i]? = some x,λi H x H'=>H'=H/\∀xs,SqT K H a xs->xs[i]? = some x,λi H=>∃xs,SqT K H a xs/\xs.length<=i⟩
def Itr(lo:Int)(n:Nat):It:=⟨λi _=>i<n,λi H x H'=>H'=H/\x = .int (lo+i),λi _=>n<=i⟩
theorem zxc{P:GJ}{w:GL}{K:Qa}{tg:Expr}(a it:Addr):Turn P w K tg (Itl K a) [it] it (λi h=>h.IsListIter it a i) where
 mem:=by simp
 obj:=λi h st b hb=>by
  have e:b=it:=by simpa using hb
  subst e;obtain⟨o,e,c,d⟩:=st;exact 11.1
 keep:=λi h h' st k=>st.at λo e=>k it 0.3 o e
 item:=by
  intro X hP hw hK hc i pins s σ H E I hf st hg;subst hP hw hK;obtain⟨xs,x,hq,hx⟩:=hg;obtain⟨its,rv,p,hz⟩:=I.list hq;obtain⟨u,hu,ru⟩:=rv.get hx;obtain⟨f0,f1,f2,f3,f4,f5⟩:=hf it 0.3;refine wpAny_pyNext_list_item st p.isList (x:=u) (by simpa using hu) λh' st' sb=>?_;have I1:Inv X pins σ H 3.9:=I.turned (t':=s.toks) (λb o hb e=>(sb.2 b hb).trans e) f0 f1 f3 f4 f5;obtain⟨o,e,c,d⟩:=id st';exact⟨u,rfl,zi3 (s:=3.9) e c d 0.4 ⟨x,H,I1,ru,⟨rfl,λys hy=>by rw[I.list_inj hy hq];exact hx⟩,st',λb hb=>(hf b hb).1⟩⟩
 done:=by
  intro X hP hw hK hc i pins s σ H E I hf st hg;subst hP hw hK;obtain⟨xs,hq,hx⟩:=hg;obtain⟨its,rv,p,hz⟩:=I.list hq;obtain⟨f0,f1,f2,f3,f4,f5⟩:=hf it 0.3;have hl:=rv.length;exact wpAny_pyNext_list_end 1e3 st p.isList 5.0 λh' eb=>11.4
 self:=λ_ _ _ _ _ st h=>wpAny_pyIter_listiter st h
theorem zt8{P:GJ}{w:GL}{K:Qa}{tg:Expr}(a it:Addr):Turn P w K tg (Itt K a) [it] it (λi h=>h.IsTupleIter it a i) where
 mem:=by simp
 obj:=λi h st b hb=>by
  have e:b=it:=by simpa using hb
  subst e;obtain⟨o,e,c,d⟩:=st;exact 11.1
 keep:=λi h h' st k=>st.at λo e=>k it 0.3 o e
 item:=by
  intro X hP hw hK hc i pins s σ H E I hf st hg;subst hP hw hK;obtain⟨xs,x,hq,hx⟩:=hg;obtain⟨its,rv,p,hz⟩:=I.tuple hq;obtain⟨u,hu,ru⟩:=rv.get hx;obtain⟨f0,f1,f2,f3,f4,f5⟩:=hf it 0.3;refine wpAny_pyNext_tuple_item st (show s.heap.IsTuple a its.toArray from p) (x:=u) (by simpa using hu) λh' st' sb=>?_;have I1:Inv X pins σ H 3.9:=I.turned (t':=s.toks) (λb o hb e=>(sb.2 b hb).trans e) f0 f1 f3 f4 f5;obtain⟨o,e,c,d⟩:=id st';exact⟨u,rfl,zi3 (s:=3.9) e c d 0.4 ⟨x,H,I1,ru,⟨rfl,λys hy=>by rw[I.tuple_inj hy hq];exact hx⟩,st',λb hb=>(hf b hb).1⟩⟩
 done:=by
  intro X hP hw hK hc i pins s σ H E I hf st hg;subst hP hw hK;obtain⟨xs,hq,hx⟩:=hg;obtain⟨its,rv,p,hz⟩:=I.tuple hq;obtain⟨f0,f1,f2,f3,f4,f5⟩:=hf it 0.3;have hl:=rv.length;exact wpAny_pyNext_tuple_end 1e3 st (show s.heap.IsTuple a its.toArray from p) 5.0 λh' eb=>11.4
 self:=λ_ _ _ _ _ st h=>wpAny_pyIter_tupleiter st h
theorem zt3{P:GJ}{w:GL}{K:Qa}{tg:Expr}(it:Addr)(lo:Int)(n:Nat):Turn P w K tg (Itr lo n) [it] it (λi h=>IsRangeIter h it (lo+(i:Nat) * 1) ((n:Int)-(i:Nat)) 1) where
 mem:=by simp
 obj:=λi h st b hb=>by
  have e:b=it:=by simpa using hb
  subst e
  exact⟨_,st,λv z=>by
   have z':Data.fields _=Data.cell v:=z
   cases z'⟩
 keep:=λi h h' st k=>k it 0.3 _ st
 item:=by
  intro X hP hw hK hc i pins s σ H E I hf st hg;subst hP hw hK;obtain⟨f0,f1,f2,f3,f4,f5⟩:=hf it 0.3;have W:=Walks.range (prog:=X.prog) (w:=X.w) 1e3 it lo 1 n;refine W.item i s _ _ hg st λv h' tk hv st' kk=>?_;obtain⟨t,rfl⟩:=hv;have I1:Inv X pins σ H 3.5:=I.turned 10.5 f0 f1 f3 f4 f5;refine⟨_,rfl,zi3 (s:=3.5) (n := "range_iterator") st' rfl rfl 0.4 ⟨.int (lo+i),H,I1,⟨t,?_⟩,⟨rfl,rfl⟩,st',λb hb=>(hf b hb).1⟩⟩;rw[Int.mul_one]
 done:=by
  intro X hP hw hK hc i pins s σ H E I hf st hg;subst hP hw hK;obtain⟨f0,f1,f2,f3,f4,f5⟩:=hf it 0.3;exact wpAny_pyNext_range_end 1e3 st (by have:n<=i:=hg;lia) λh' eb=>11.4
 self:=λ_ _ _ _ _ st h=>wpAny_pyIter_rangeiter st h
section
variable {X:Cx}{tg:Expr}
def zi5(K:Qa)(tl:TE):TI:=λσ H R=>tl σ H λx H1=>∃a,x = .ref a/\(∃xs,SqL K H1 a xs)/\R (Itl K a) H1
def iTup(K:Qa)(tl:TE):TI:=λσ H R=>tl σ H λx H1=>∃a,x = .ref a/\(∃xs,SqT K H1 a xs)/\R (Itt K a) H1
theorem zid(hl:PE X l tl):PI X tg l (zi5 X.K tl):=by
 intro pins s σ H R I h;refine thn (hl pins s σ H _ I h) λv s1 zz=>?_;obtain⟨x,H1,I1,r1,q1⟩:=zz;obtain⟨a,e,⟨xs,hq⟩,q⟩:=q1;subst e;cases r1;obtain⟨its,rv,p,hz⟩:=I1.list hq;refine TW p.isList ?_;refine⟨s1.heap.objs.size,[s1.heap.objs.size],_,_,H1,rfl,I1.kept (t':=s1.toks) λb o e=>Qb _ e,zxc a _,⟨_,Qp _ rfl,rfl,rfl⟩,λb hb=>?_,q⟩;have e:b=s1.heap.objs.size:=by simpa using hb
 subst e;exact I1.fpOk (Qi _) 11.8
theorem yac(hl:PE X l tl):PI X tg l (iTup X.K tl):=by
 intro pins s σ H R I h;refine thn (hl pins s σ H _ I h) λv s1 zz=>?_;obtain⟨x,H1,I1,r1,q1⟩:=zz;obtain⟨a,e,⟨xs,hq⟩,q⟩:=q1;subst e;cases r1;obtain⟨its,rv,p,hz⟩:=I1.tuple hq;refine wpAny_pyIter_tuple (show s1.heap.IsTuple a its.toArray from p) ?_;refine⟨s1.heap.objs.size,[s1.heap.objs.size],_,_,H1,rfl,I1.kept (t':=s1.toks) λb o e=>Qb _ e,zt8 a _,⟨_,Qp _ rfl,rfl,rfl⟩,λb hb=>?_,q⟩;have e:b=s1.heap.objs.size:=by simpa using hb
 subst e;exact I1.fpOk (Qi _) 11.8
theorem z0v{pins:1.1}{s:GH}{R:It->Hp->Prop}{lo hi:Int}{tk:Nat}(I:0.6)(h1:-(2 ^ 62)<=lo)(h2:lo<2 ^ 62)(h3:-(2 ^ 62)<=hi)(h4:hi<2 ^ 62)
 (q:R (Itr lo (hi-lo).toNat) H):wpAny 0.5 X.A (MJ 2.7) (PIE X pins σ tg R) E { s with heap:=s.heap.push { cls:=.type "range",data:=.fields #[.int lo t,.int hi u,.int 1 v] },toks:=tk }:=by
 refine wpAny_pyIter_range (IsRange.new ..) (small_one h1 h2 h3 h4) ?_;have I1:Inv X pins σ H { s with heap:=s.heap.push { cls:=.type "range",data:=.fields #[.int lo t,.int hi u,.int 1 v] },toks:=tk }:=I.kept λb o e=>Qb _ e
 refine⟨(s.heap.push { cls:=.type "range",data:=.fields #[.int lo t,.int hi u,.int 1 v] }).objs.size,[(s.heap.push { cls:=.type "range",data:=.fields #[.int lo t,.int hi u,.int 1 v] }).objs.size],_,_,H,rfl,
  I1.kept (t':=tk) λb o e=>Qb _ e,zt3 _ lo (hi-lo).toNat,?_,λb hb=>?_,q⟩
 .have e1:lo+((0:Nat):Int) * 1=lo:=by simp
  have e2:(((hi-lo).toNat:Nat):Int)-((0:Nat):Int)=Builtin.Range.rangeSize lo hi 1:=by rw[rangeSize_one];split <;> lia
  show IsRangeIter _ _ (lo+((0:Nat):Int) * 1) ((((hi-lo).toNat:Nat):Int)-((0:Nat):Int)) 1;rw[e1,e2];exact Qp _ rfl
 .have e:b=(s.heap.push { cls:=.type "range",data:=.fields #[.int lo t,.int hi u,.int 1 v] }).objs.size:=by simpa using hb
  subst e;exact I1.fpOk (Qi _) 11.8
def ztl(ta:TA):TI:=λσ H R=>ta σ H λvs H1=>∃j:Int,vs = [.int j]/\-(2 ^ 62)<=j/\j<2 ^ 62/\R (Itr 0 j.toNat) H1
theorem zn6(hg:Gl X "range")(hm:X.mg "range" = none)(ha:PA X [a] ta)(hs:GI [a] X.env = [(false,eval a X.env)]:=by rfl):PI X tg (.Call (.Name "range" p) [a] [] pos) (ztl ta):=by
 intro pins s σ H R I h;refine Call_ (zbt I hg hm boot_range (Zl (thn (ha pos pins s σ H _ I h) λus s1 zz=>?_) hs rfl));obtain⟨vs,H1,I1,r1,q1⟩:=zz;obtain⟨j,e,q1,q2,q⟩:=q1;subst e
 cases r1 with
 | cons r rr=>
   cases rr;obtain⟨t,rfl⟩:=r;exact call_range_1 (z0v I1 0.0 0.0 q1 q2 (by simpa using q))
def tFor(wi:TI)(g:TG)(tb:TS):TS:=λD σ H=>wi σ H λJ H1=>∃W:Nat->Nat->St->Hp->Prop,(∃m,W 0 m σ H1)/\∀i m σ H,W i m σ H ->
 (J.stop i H/\D.nx σ H)\/(J.go i H/\∃N:St->Hp->Prop,(∀σ' H',N σ' H'->∃m',m'<m/\W (i+1) m' σ' H')/\∀x H',J.yld i H x H'->g x σ H' λσ2 H2=>tb { D with nx:=N,ct:=N,bk:=D.nx } σ2 H2)
def zho(fp:3e9)(h:Heap):List (Addr×Obj):=fp.filterMap λb=>(h.get? b).map λo=>(b,o)
theorem zei(hb:b∈fp)(e:h.get? b=some o):(b,o)∈zho fp h:=U3.mpr ⟨b,hb,by rw[e];rfl⟩
theorem zvh(hp:p∈zho fp h):p.1∈fp/\h.get? p.1=some p.2:=by
 obtain⟨b,hb,e⟩:=U3.mp hp
 cases q:h.get? b with
 | none=>rw[q] at e;cases e
 | some o=>
   rw[q] at e;have e':(b,o)=p:=Zy e;subst e';exact⟨hb,q⟩
theorem Inv.pinned{pins:1.1}{s:GH}(I:0.6)(hf:∀b∈fp,FpOk X pins H b)(ho:∀b∈fp,∃o,s.heap.get? b=some o/\∀v,o.data≠.cell v):Inv X (pins++zho fp s.heap) σ H s :=
 I.pins_of λp hp=>(Qx.mp hp).elim (λz=>I.pin p (Q8 _ z)) λz=>by
  obtain⟨hb,e⟩:=zvh z;obtain⟨f0,f1,f2,_⟩:=hf p.1 hb;obtain⟨o,e',d⟩:=ho p.1 hb;rw[e] at e';cases e';exact⟨e,f0,f1,f2,d⟩
theorem Inv.unpinned{pins:1.1}{s:GH}(I:Inv X (pins++pl) σ H s):Inv X pins σ H s:=I.pins_of λp hp=>I.pin p (Q8 _ (QT _ hp))
theorem zpc{iter:Expr}{body:6e0}{wi:TI}(hp:Mx 0.5 X.A X.env X.xe)(hc:6e4)(hi:PI X tg iter wi)(hg:PG X tg g)(hb:PSs X body tb)
 (hs:∀x,Th iter X.env x=pure x:=by intro _;rfl):PS X (.For tg iter body [] pos) (tFor wi g tb):=by
 intro pins s σ H D I h;refine wpAny_For (thn (hi pins s σ H _ I h) λv s1 h1=>thn h1 λitv s2 h2=>?_) hs;obtain⟨it,fp,tn,J,H2,e,I2,T,st2,f2,W,⟨m0,w0⟩,turn⟩:=h2;subst e
 -- what stays true of the iterator's objects through the loop
 have stat:∀{H':Hp},16.1->∀b∈fp,FpOk X pins H' b:=λhn b hb=>⟨hn b hb,(f2 b hb).2⟩;refine codeAny_forLoop_any (λn s'=>∃i σ' H',Inv X pins σ' H' s'/\tn i s'.heap/\16.1/\W i n σ' H') ?_ m0 ⟨0,σ,H2,I2,st2,λb hb=>(f2 b hb).1,w0⟩;rintro n s3 ⟨i,σ3,H3,I3,st3,fr3,w3⟩;rcases turn i n σ3 H3 w3 with ⟨stop,qn⟩|⟨go,N,hN,step⟩
 .refine Tr hp (thn (T.done X rfl rfl rfl hc i pins s3 σ3 H3 X.xe I3 (stat fr3) st3 stop) λr s4 zz=>?_);obtain⟨hr,I4⟩:=zz;subst hr;exact TU ⟨σ3,H3,I4,qn⟩
 .refine Tr hp (thn (T.item X rfl rfl rfl hc i pins s3 σ3 H3 X.xe I3 (stat fr3) st3 go) λr s4 zz=>?_);obtain⟨u,hr,h4⟩:=zz;subst hr;refine Tr hp (thn h4 λ_ s5 zz=>?_);obtain⟨x,H5,I5,r5,y5,st5,fr5⟩:=zz;have I5':=I5.pinned (stat fr5) (T.obj _ _ st5);refine Tr hp (thn (hg _ s5 σ3 H5 x u _ I5' r5 (step x H5 y5)) λ_ s6 zz=>?_);obtain⟨σ6,H6,I6,q6⟩:=zz;refine Tr hp (thn (hb _ s6 σ6 H6 _ I6 q6) λf s7 q7=>?_)
  have again:∀{σ7:St} {H7:Hp},Inv X (pins++zho fp s5.heap) σ7 H7 s7->N σ7 H7->∃m,m<n/\∃i σ' H',Inv X pins σ' H' s7/\tn i s7.heap/\16.1/\W i m σ' H':=λ{σ7 H7} I7 n7=>by
   obtain⟨m',hm,w7⟩:=hN σ7 H7 n7;refine⟨m',hm,i+1,σ7,H7,I7.unpinned,T.keep _ _ _ st5 λb hb o e=>(I7.pin (b,o) (Q8 _ (Q8 _ (zei hb e)))).1,λb hb=>?_,w7⟩;obtain⟨o,e,d⟩:=T.obj _ _ st5 b hb;exact(I7.pin (b,o) (Q8 _ (Q8 _ (zei hb e)))).2.1
  cases f with
  | next=>obtain⟨σ7,H7,I7,n7⟩:=q7;exact again I7 n7
  | cont=>obtain⟨σ7,H7,I7,n7⟩:=q7;exact again I7 n7
  | brk=>obtain⟨σ7,H7,I7,q7⟩:=q7;exact⟨σ7,H7,I7.unpinned,q7⟩
  | ret v=>obtain⟨x7,σ7,H7,I7,r7,q7⟩:=q7;exact⟨x7,σ7,H7,I7.unpinned,r7,q7⟩
end
theorem zzw{K:Qa}{a:Addr}{xs:5.4}{g:TG}{tb:TS}{D:Ends}{σ:St}{H:Hp}(Pv:Nat->St->Hp->Prop)(h0:Pv 0 σ H)(hl:∀i σ H,i<=xs.length->Pv i σ H->SqL K H a xs)
 (hs:∀i x σ H,xs[i]? = some x->Pv i σ H->g x σ H λσ2 H2=>tb { D with nx:=Pv (i+1),ct:=Pv (i+1),bk:=D.nx } σ2 H2) (hd:∀σ H,Pv xs.length σ H->D.nx σ H) :
 ∃W:Nat->Nat->St->Hp->Prop,(∃m,W 0 m σ H)/\∀i m σ H,W i m σ H ->
   ((Itl K a).stop i H/\D.nx σ H)\/((Itl K a).go i H/\∃N:St->Hp->Prop,(∀σ' H',N σ' H'->∃m',m'<m/\W (i+1) m' σ' H')/\∀x H',(Itl K a).yld i H x H'->g x σ H' λσ2 H2=>tb { D with nx:=N,ct:=N,bk:=D.nx } σ2 H2):=by
 refine⟨λi m σ H=>m=xs.length-i/\i<=xs.length/\Pv i σ H,⟨xs.length,by simp,Qw _,h0⟩,?_⟩;rintro i m σ H ⟨rfl,hi,p⟩;have q:=hl i σ H hi p
 by_cases hlt:i<xs.length
 .refine .inr ⟨⟨xs,xs[i],q,by simp[hlt]⟩,Pv (i+1),λσ' H' p'=>⟨xs.length-(i+1),by lia,rfl,hlt,p'⟩,λx H' y=>?_⟩;obtain⟨e,y⟩:=y;subst e;exact hs i x σ _ (y xs q) p
 .have e:i=xs.length:=by lia
  subst e;exact .inl ⟨⟨xs,q,Qi _⟩,hd σ H p⟩
abbrev R2:=V->V->Hp->VK->Prop
def OpR(X:Cx)(f:GE->GE->Sem GE)(r:R2):Prop :=
 ∀(pins:1.1) (s:GH) (σ:St) (H:Hp) (x y:V) (v u:GE) (Q:VK),Inv X pins σ H s->RelV x v->RelV y u->r x y H Q ->
   wpAny 0.5 X.A (f v u) 7.0 X.xe s
def UnR(X:Cx)(f:GE->Sem GE)(r:V->Hp->VK->Prop):Prop :=
 ∀(pins:1.1) (s:GH) (σ:St) (H:Hp) (x:V) (v:GE) (Q:VK),Inv X pins σ H s->RelV x v->r x H Q ->
   wpAny 0.5 X.A (f v) 7.0 X.xe s
def CallR(X:Cx)(f:GE)(r:List V->Hp->VK->Prop):Prop :=
 ∀(pins:1.1) (s:GH) (σ:St) (H:Hp) (xs:5.4) (us:2.8) (Q:VK),Inv X pins σ H s->Vals xs us->r xs H Q ->
   wpAny 0.5 X.A (call f us) 7.0 X.xe s
def TruR(X:Cx)(r:V->Hp->(Bool->Hp->Prop)->Prop):Prop :=
 ∀(pins:1.1) (s:GH) (σ:St) (H:Hp) (x:V) (v:GE) (Q:Bool->Hp->Prop),Inv X pins σ H s->RelV x v->r x H Q ->
   wpAny 0.5 X.A (truthy v) (TP X pins σ Q) X.xe s
def tOp(r:R2)(ta tb:TE):TE:=λσ H Q=>ta σ H λx H1=>tb σ H1 λy H2=>r x y H2 Q
def tUn(r:V->Hp->VK->Prop)(ta:TE):TE:=λσ H Q=>ta σ H λx H1=>r x H1 Q
def rI(C:Int->Int->Prop)(g:Int->Int->V):R2:=λx y H Q=>∃i j,x = .int i/\y = .int j/\C i j/\Q (g i j) H
def rI0(g:Int->Int->V):R2:=λx y H Q=>∃i j,x = .int i/\y = .int j/\Q (g i j) H
def rU(g:Int->V):V->Hp->VK->Prop:=λx H Q=>∃i,x = .int i/\Q (g i) H
section
variable {X:Cx}{a b c:Expr}{ta tb tc:TE}{pos:Pos}
theorem binT(ha:26.0)(hb:PE X b tb){pins:1.1}{s:GH}{σ:St}{H:Hp}{R:V->V->Hp->Prop}(I:0.6)
 (h:ta σ H λx H1=>tb σ H1 λy H2=>R x y H2) {Q:1.7} {f:GE->GE->Sem GE}
 (hf:∀v u s2 x y H2,Inv X pins σ H2 s2->RelV x v->RelV y u->R x y H2->wpAny 0.5 X.A (f v u) Q X.xe s2) :
 wpAny 0.5 X.A (eval a X.env) (λv s₁=>wpAny 0.5 X.A (eval b X.env) (λu s₂=>wpAny 0.5 X.A (f v u) Q X.xe s₂) X.xe s₁) X.xe s:=by
 refine thn 8.1 λv s1 zz=>?_;obtain⟨x,H1,I1,r1,q1⟩:=zz;refine thn (hb pins s1 σ H1 _ I1 q1) λu s2 zz=>?_;obtain⟨y,H2,I2,r2,q2⟩:=zz;exact hf v u s2 x y H2 I2 r1 r2 q2
theorem za8(ho:OpR X (binaryOp op) r)(ha:26.0)(hb:PE X b tb):PE X (.BinOp a op b pos) (tOp r ta tb):=by
 intro pins s σ H Q I h;exact wpAny_BinOp (binT ha hb I h λv u s2 x y H2 I2 rx ry q=>ho pins s2 σ H2 x y v u Q I2 rx ry q)
theorem ydc(ho:UnR X (unaryOp op) r)(ha:26.0):PE X (.UnaryOp op a pos) (tUn r ta):=by
 intro pins s σ H Q I h;exact UnaryOp_ (thn 8.1 λv s1 ⟨x,H1,I1,r1,q1⟩=>ho pins s1 σ H1 x v Q I1 r1 q1)
theorem opI{f:GE->GE->Sem GE}{C:Int->Int->Prop}{g:Int->Int->Int}
 (rule:∀(i j:Int) (t u:Tok) (s:GH) (Q:1.7) (E:1.7),C i j->Q (.int (g i j) s.toks) 5e9->wpAny 0.5 X.A (f (.int i t) (.int j u)) Q E s) :
 OpR X f (rI C λi j=>.int (g i j)):=by
 intro pins s σ H x y v u Q I rx ry h;obtain⟨i,j,rfl,rfl,hc,q⟩:=h;obtain⟨t,rfl⟩:=rx;obtain⟨t',rfl⟩:=ry;exact rule i j t t' s _ _ hc ⟨.int (g i j),H,I.tok _,⟨_,rfl⟩,q⟩
theorem opI0{f:GE->GE->Sem GE}{g:Int->Int->Int}
 (rule:∀(i j:Int) (t u:Tok) (s:GH) (Q:1.7) (E:1.7),Q (.int (g i j) s.toks) 5e9->wpAny 0.5 X.A (f (.int i t) (.int j u)) Q E s) :
 OpR X f (rI0 λi j=>.int (g i j)):=by
 intro pins s σ H x y v u Q I rx ry h;obtain⟨i,j,rfl,rfl,q⟩:=h;obtain⟨t,rfl⟩:=rx;obtain⟨t',rfl⟩:=ry;exact rule i j t t' s _ _ ⟨.int (g i j),H,I.tok _,⟨_,rfl⟩,q⟩
theorem opB0{f:GE->GE->Sem GE}{g:Int->Int->Bool}
 (rule:∀(i j:Int) (t u:Tok) (s:GH) (Q:1.7) (E:1.7),Q (.bool (g i j)) s->wpAny 0.5 X.A (f (.int i t) (.int j u)) Q E s) :
 OpR X f (rI0 λi j=>.bl (g i j)):=by
 intro pins s σ H x y v u Q I rx ry h;obtain⟨i,j,rfl,rfl,q⟩:=h;obtain⟨t,rfl⟩:=rx;obtain⟨t',rfl⟩:=ry;exact rule i j t t' s _ _ ⟨.bl (g i j),H,I,rfl,q⟩
def CDiv(i j:Int):Prop:=0<j/\j<1073741824
def CPow(i j:Int):Prop:=0<=j/\j<=1000000/\i.natAbs<2 ^ 64
def CMul(i j:Int):Prop:=(-(2 ^ 64)<i/\i<2 ^ 64)\/(-(2 ^ 64)<j/\j<2 ^ 64)
theorem CMul.ok{i j:Int}(h:CMul i j):IntMulOk i j:=by
 rcases h with ⟨h1,h2⟩|⟨h1,h2⟩
 .exact .of_left (intBits_le_64 h1 h2)
 .exact .of_right (intBits_le_64 h1 h2)
theorem op_add:OpR X (binaryOp .Add) 9e8:=opI0 λ_ _ _ _ _ _ _ q=>add_int q
theorem yaa:OpR X (binaryOp .Sub) (rI0 λi j=>.int (i-j)):=opI0 λ_ _ _ _ _ _ _ q=>sub_int q
theorem op_mul:OpR X (binaryOp .Mult) 3e3:=opI λ_ _ _ _ _ _ _ hc q=>mul_int q hc.ok
theorem z5u:OpR X (binaryOp .FloorDiv) (rI CDiv λi j=>.int (i / j)):=opI λi j _ _ _ _ _ hc q=>by
 have h1:(0:Int)<j:=hc.1;have h2:j<1073741824:=hc.2;exact floordiv_int 0.0 (by rw[Int.fdiv_eq_ediv_of_nonneg i 0.0];exact q) (.inl (PyProof.noPylong_small 0.0))
theorem zd6:OpR X (binaryOp .Mod) 8.5:=opI λi j _ _ _ _ _ hc q=>by
 have h1:(0:Int)<j:=hc;exact mod_int' 0.0 (by rw[Int.fmod_eq_emod_of_nonneg i 0.0];exact q)
theorem z9w:OpR X (binaryOp .Pow) (rI CPow λi j=>.int (i ^ j.toNat)):=opI λ_ _ _ _ _ _ _ hc q=>pow_int_small hc.1 hc.2.1 hc.2.2 q
theorem unI{f:GE->Sem GE}{g:Int->Int}
 (rule:∀(i:Int) (t:Tok) (s:GH) (Q:1.7) (E:1.7),Q (.int (g i) s.toks) 5e9->wpAny 0.5 X.A (f (.int i t)) Q E s) :
 UnR X f (rU λi=>.int (g i)):=by
 intro pins s σ H x v Q I rx h;obtain⟨i,rfl,q⟩:=h;obtain⟨t,rfl⟩:=rx;exact rule i t s _ _ ⟨.int (g i),H,I.tok _,⟨_,rfl⟩,q⟩
theorem z9o:UnR X (unaryOp .USub) (rU λi=>.int (-i)):=unI λ_ _ _ _ _ q=>neg_int q
end
def scal:V->V->Bool
 | .non,.non=>true | .non,.int _=>true | .int _,.non=>true | .non,.bl _=>true | .bl _,.non=>true | .non,.str _=>true | .str _,.non=>true
 | .int _,.int _=>true | .bl _,.bl _=>true | .str _,.str _=>true | .byt _,.byt _=>true
 | .int _,.str _=>true | .str _,.int _=>true | .bl _,.str _=>true | .str _,.bl _=>true
 | _,_=>false
def rEq:R2:=λx y H Q=>scal x y=true/\Q (.bl (decide (x=y))) H
theorem z5l{i j:Int}:decide (V.int i=V.int j)=(i == j):=by
 rw[Jp];simp
theorem z9k{i j:Bool}:decide (V.bl i=V.bl j)=(i == j):=by
 rw[Jp];simp
theorem z6q: decide (V.str i=V.str j)=(i == j):=by
 rw[Jp];simp
theorem z5t: decide (V.byt i=V.byt j)=(i.toList == j.toList):=by
 rw[Jp];cases i;cases j;simp
section
variable {X:Cx}{a b c:Expr}{ta tb tc:TE}{pos:Pos}
theorem zbd{pins:1.1}{s:GH}{k k':Bool}(I:0.6)(q:Q (.bl k) H)(e:k=k'):EP X pins σ Q (.bool k') s:=by
 subst e;exact⟨.bl k,H,I,rfl,q⟩
theorem ydl:OpR X (GT .Eq) rEq:=by
 intro pins s σ H x y v u Q I rx ry h;obtain⟨hs,q⟩:=h
 cases x with
 | non=>
   cases rx
   cases y with
   | non=>cases ry;exact PySem.EqNone.eq_none_none 8e9
   | bl j=>cases ry;exact PySem.EqNone.eq_none_bool 8e9
   | int j=>obtain⟨t',rfl⟩:=ry;exact PySem.EqNone.eq_none_int 8e9
   | str j=>obtain⟨t',rfl⟩:=ry;exact PySem.EqNone.eq_none_str 8e9
   | _=>exact absurd (show false=true from hs) Qt
 | bl i=>
   cases rx
   cases y with
   | non=>cases ry;exact PySem.EqNone.eq_bool_none 8e9
   | bl j=>cases ry;exact eq_bool (zbd I q z9k)
   | str j=>obtain⟨t',rfl⟩:=ry;exact PySem.EqMixed.eq_bool_str 8e9
   | _=>exact absurd (show false=true from hs) Qt
 | int i=>
   obtain⟨t,rfl⟩:=rx
   cases y with
   | non=>cases ry;exact PySem.EqNone.eq_int_none 8e9
   | int j=>obtain⟨t',rfl⟩:=ry;exact eq_int (zbd I q z5l)
   | str j=>obtain⟨t',rfl⟩:=ry;exact PySem.EqMixed.eq_int_str 8e9
   | _=>exact absurd (show false=true from hs) Qt
 | str i=>
   obtain⟨t,rfl⟩:=rx
   cases y with
   | non=>cases ry;exact PySem.EqNone.eq_str_none 8e9
   | bl j=>cases ry;exact PySem.EqMixed.eq_str_bool 8e9
   | int j=>obtain⟨t',rfl⟩:=ry;exact PySem.EqMixed.eq_str_int 8e9
   | str j=>obtain⟨t',rfl⟩:=ry;exact eq_str (zbd I q z6q)
   | _=>exact absurd (show false=true from hs) Qt
 | byt i=>
   obtain⟨t,rfl⟩:=rx
   cases y with
   | byt j=>obtain⟨t',rfl⟩:=ry;exact PySem.W.eq_bytes (zbd I q z5t)
   | _=>exact absurd (show false=true from hs) Qt
 | _=>cases y <;> exact absurd (show false=true from hs) Qt
theorem ydq:OpR X (GT .Lt) (rI0 λi j=>.bl (decide (i<j))):=opB0 λ_ _ _ _ _ _ _ q=>lt_int q
theorem ydu:OpR X (GT .LtE) (rI0 λi j=>.bl (decide (i<=j))):=opB0 λ_ _ _ _ _ _ _ q=>le_int q
theorem zue:OpR X (GT .Gt) 23.4:=opB0 λ_ _ _ _ _ _ _ q=>gt_int q
theorem ydf:OpR X (GT .GtE) (rI0 λi j=>.bl (decide (j<=i))):=opB0 λ_ _ _ _ _ _ _ q=>ge_int q
theorem op_in_str:OpR X (GT .In) (λx y H Q=>∃i j,x = .str i/\y = .str j/\Q (.bl 14.3) H):=by
 intro pins s σ H x y v u Q I rx ry h;obtain⟨i,j,rfl,rfl,q⟩:=h;obtain⟨t,rfl⟩:=rx;obtain⟨t',rfl⟩:=ry;exact in_str (zbd I q rfl)
theorem ybe:OpR X (GT .Is) (λx y H Q=>y = .non/\Q (.bl (decide (x = .non))) H):=by
 intro pins s σ H x y v u Q I rx ry h;obtain⟨rfl,q⟩:=h;cases ry;refine is_none_gen (zbd I q ?_)
 cases x <;> first
  | (cases rx;rfl)
  | (obtain⟨t,rfl⟩:=rx;rfl)
theorem zst:OpR X (GT .IsNot) (λx y H Q=>y = .non/\Q (.bl (!decide (x = .non))) H):=by
 intro pins s σ H x y v u Q I rx ry h;obtain⟨rfl,q⟩:=h;cases ry;refine isnot_none_gen (zbd I q ?_)
 cases x <;> first
  | (cases rx;rfl)
  | (obtain⟨t,rfl⟩:=rx;rfl)
theorem op_notin_str:OpR X (GT .NotIn) (λx y H Q=>∃i j,x = .str i/\y = .str j/\Q (.bl (!14.3)) H):=by
 intro pins s σ H x y v u Q I rx ry h;obtain⟨i,j,rfl,rfl,q⟩:=h;obtain⟨t,rfl⟩:=rx;obtain⟨t',rfl⟩:=ry;exact notIn_str (zbd I q rfl)
theorem OpR.or(h:OpR X f r)(h':OpR X f r'):OpR X f (λx y H Q=>r x y H Q\/r' x y H Q):=by
 intro pins s σ H x y v u Q I rx ry q;rcases q with q|q
 .exact h pins s σ H x y v u Q I rx ry q
 .exact h' pins s σ H x y v u Q I rx ry q
theorem zbx(b:Expr)(h:op≠.In:=by decide)(h2:op≠.NotIn:=by decide):Tf op b=false:=by
 have e1:(op == CmpOp.In)=false:=by cases op <;> first|rfl|exact absurd rfl h
 have e2:(op == CmpOp.NotIn)=false:=by cases op <;> first|rfl|exact absurd rfl h2
 cases b <;> simp[Tf,e1,e2]
theorem z6t(ho:OpR X (GT op) r)(ha:26.0)(hb:PE X b tb)(hm:Tf op b=false):PE X 19.1 (tOp r ta tb):=by
 intro pins s σ H Q I h;exact wpAny_Compare1 (binT ha hb I h λv u s2 x y H2 I2 rx ry q=>ho pins s2 σ H2 x y v u Q I2 rx ry q) hm
def zgw(t:TE):TT:=λσ H Q=>t σ H λx H'=>∃k,x = .bl k/\Q k H'
theorem zf5(ho:OpR X (GT op) r)(ha:26.0)(hb:PE X b tb)(hm:Tf op b=false):PT X 19.1 (zgw (tOp r ta tb)):=by
 intro pins s σ H Q I h
 refine MR (thn 8.1 λv s1 ⟨x,H1,I1,r1,q1⟩=>thn (hb pins s1 σ H1 _ I1 q1) λu s2 ⟨y,H2,I2,r2,q2⟩=>
  thn (ho pins s2 σ H2 x y v u _ I2 r1 r2 q2) λc s3 ⟨z,H3,I3,r3,k,e,q3⟩=>?_) hm
 subst e;cases r3;exact Tj ⟨H3,I3,q3⟩
def zvi(r r':R2)(ta tb tc:TE):TE:=λσ H Q=>ta σ H λx H1=>tb σ H1 λy H2=>r x y H2 λz H3=>∃k,z = .bl k /\
 (if k=true then tc σ H3 λw' H4=>r' y w' H4 Q else Q (.bl false) H3)
theorem z1y(ho:OpR X (GT op) r)(ho':OpR X (GT op') r')(ha:26.0)(hb:PE X b tb)(hc:PE X c tc)
 (hm:lastMarks [op,op'] [b,c]=false:=by with_unfolding_all rfl):PE X (.Compare a [op,op'] [b,c] pos) (zvi r r' ta tb tc):=by
 intro pins s σ H Q I h
 refine Compare_chain (thn 8.1 λv s1 ⟨x,H1,I1,r1,q1⟩=>chain_link (thn (hb pins s1 σ H1 _ I1 q1) λu s2 ⟨y,H2,I2,r2,q2⟩=>
  thn (ho pins s2 σ H2 x y v u _ I2 r1 r2 q2) λd s3 ⟨z,H3,I3,r3,k,e,q3⟩=>?_)) hm
 subst e;cases r3;refine Tj ?_
 cases k with
 | false=>exact ite_ff ⟨.bl false,H3,I3,rfl,q3⟩
 | true=>exact ite_tt (chain_last (thn (hc pins s3 σ H3 _ I3 q3) λw' s4 ⟨z',H4,I4,r4,q4⟩=>ho' pins s4 σ H4 y z' u w' Q I4 r2 r4 q4))
def TruV(K:Qa)(x:V)(H:Hp)(k:Bool):Prop :=
 match x with
 | .non=>k=false
 | .bl b=>k=b
 | .int i=>k=(i != 0)
 | .str y=>y.length<=sizeLine/\k=((y.length:Int) != 0)
 | .byt y=>y.size<=sizeLine/\k=((y.size:Int) != 0)
 | .ref p=>(∃xs,SqL K H p xs/\k = !xs.isEmpty)\/(∃xs,SqT K H p xs/\k = !xs.isEmpty)\/∃kvs,H p=some 5.2/\k = !kvs.isEmpty
 | _=>False
theorem ztw{κ:Type}{kvs:List (κ×V)}{vs:List (κ×GE)}(r:KV kvs vs):(!vs.isEmpty) = !kvs.isEmpty:=by
 cases r <;> rfl
theorem zk2{its:2.8}(r:Vals xs its):(!its.toArray.isEmpty) = !xs.isEmpty:=by
 cases r <;> simp
theorem zhx:(sizeLine:Nat)<2 ^ 63:=by rw[GK];decide
theorem ybs:TruR X (λx H Q=>∃k,TruV X.K x H k/\Q k H):=by
 intro pins s σ H x v Q I rx h;obtain⟨k,e,q⟩:=h;have hl:=zhx;have hs:sizeLine=16777216:=GK
 cases x with
 | non=>
   cases rx;have e':k=false:=e;subst e';exact truthy_none ⟨H,I,q⟩
 | bl b=>
   cases rx;have e':k=b:=e;subst e';exact Tj ⟨H,I,q⟩
 | int i=>
   obtain⟨t,rfl⟩:=rx;have e':k=(i != 0):=e;subst e';exact PySem.P.truthy_int ⟨H,I,q⟩
 | str y=>
   obtain⟨t,rfl⟩:=rx;obtain⟨hy,e'⟩:y.length<=sizeLine/\k=((y.length:Int) != 0):=e;subst e';exact PySem.P.truthy_str 0.0 ⟨H,I.tok _,q⟩
 | byt y=>
   obtain⟨t,rfl⟩:=rx;obtain⟨hy,e'⟩:y.size<=sizeLine/\k=((y.size:Int) != 0):=e;subst e';exact PySem.W.truthy_bytes 0.0 ⟨H,I.tok _,q⟩
 | ref p=>
   cases rx;have e':(∃xs,SqL X.K H p xs/\k = !xs.isEmpty)\/(∃xs,SqT X.K H p xs/\k = !xs.isEmpty)\/∃kvs,H p=some 5.2/\k = !kvs.isEmpty:=e;rcases e' with ⟨xs,hx,e'⟩|⟨xs,hx,e'⟩|⟨kvs,hx,e'⟩
   .subst e';obtain⟨its,r,pl,hz⟩:=I.list hx;have hlen:=r.length;exact wpAny_truthy_list pl.isList (by simp only[Qu];lia) ⟨H,I.tok _,by rw[zk2 r];exact q⟩
   .subst e';obtain⟨its,r,pl,hz⟩:=I.tuple hx;have hlen:=r.length;exact truthy_tuple pl (by simp only[Qu];lia) ⟨H,I.tok _,by rw[zk2 r];exact q⟩
   .subst e';obtain⟨hz,hS,vs,r,m⟩:kvs.length<=sizeLine/\(p == GZ)=false/\∃vs,KV kvs vs/\s.heap.DictOf (mixKind X.prog X.w) p vs:=I.hok p _ hx;have hlen:kvs.length=vs.length:=JO r;exact wpAny_truthy_dict hS m 0.0 ⟨H,I.tok _,by rw[ztw r];exact q⟩
 | _=>exact(show False from e).elim
theorem z0q(ha:26.0)(he:∀whole,isTrue a X.env whole=25.5):
 PT X a (λσ H Q=>ta σ H λx H'=>∃k,TruV X.K x H' k/\Q k H'):=by
 intro pins s σ H Q I h;exact isTrue_plain (thn 8.1 λv s1 ⟨x,H1,I1,r1,q1⟩=>ybs pins s1 σ H1 x v Q I1 r1 q1) (he _)
theorem op_add_str:OpR X (binaryOp .Add) (λx y H Q=>∃i j,x = .str i/\y = .str j/\i.length+j.length<=sizeLine/\Q (.str (i++j)) H):=by
 intro pins s σ H x y v u Q I rx ry h;obtain⟨i,j,rfl,rfl,hz,q⟩:=h;obtain⟨t,rfl⟩:=rx;obtain⟨t',rfl⟩:=ry;exact add_str (λt' tk=>⟨.str (i++j),H,I.tok _,⟨_,rfl⟩,q⟩) hz
theorem zu2(r:Vals [x] us):∃u,us = [u]/\RelV x u:=by
 cases r with
 | cons r1 r2=>cases r2;exact⟨_,rfl,r1⟩
theorem ydp(r:Vals [x,y] us):∃u w',us = [u,w']/\RelV x u/\RelV y w':=by
 cases r with
 | cons r1 r2=>
   cases r2 with
   | cons r3 r4=>cases r4;exact⟨_,_,rfl,r1,r3⟩
theorem zvp(hc:6e4):CallR X (.builtin "max") (λxs H Q=>∃i j,xs = [.int i,.int j]/\Q (.int (if j > i then j else i)) H):=by
 intro pins s σ H xs us Q I r h;obtain⟨i,j,rfl,q⟩:=h;obtain⟨u,w',rfl,⟨t,rfl⟩,⟨t',rfl⟩⟩:=ydp r;refine max_two_ints 1e3 λh' tk k=>⟨_,H,I.kept k,?_,q⟩
 by_cases hj:j > i
 .rw[N3 hj,N3 hj];exact⟨_,rfl⟩
 .rw[N4 hj,N4 hj];exact⟨_,rfl⟩
def LenV(K:Qa)(x:V)(H:Hp)(n:Nat):Prop :=
 match x with
 | .str y=>y.length<=sizeLine/\n=y.length
 | .byt y=>y.size<=sizeLine/\n=y.size
 | .ref p=>(∃xs,SqL K H p xs/\n=xs.length)\/∃xs,SqT K H p xs/\n=xs.length
 | _=>False
theorem zj6:CallR X (.builtin "len") (λxs H Q=>∃x n,xs = [x]/\LenV X.K x H n/\Q (.int n) H):=by
 intro pins s σ H xs us Q I r h;obtain⟨x,n,rfl,e,q⟩:=h;obtain⟨u,rfl,rx⟩:=zu2 r;have hl:=zhx;have hs:sizeLine=16777216:=GK
 cases x with
 | str y=>
   obtain⟨t,rfl⟩:=rx;obtain⟨hy,e'⟩:y.length<=sizeLine/\n=y.length:=e;subst e';exact len_str 0.0 17.8
 | byt y=>
   obtain⟨t,rfl⟩:=rx;obtain⟨hy,e'⟩:y.size<=sizeLine/\n=y.size:=e;subst e';exact PySem.W.len_bytes 0.0 17.8
 | ref p=>
   cases rx;have e':(∃xs,SqL X.K H p xs/\n=xs.length)\/∃xs,SqT X.K H p xs/\n=xs.length:=e;rcases e' with ⟨xs,hx,e'⟩|⟨xs,hx,e'⟩
   .subst e';obtain⟨its,r',pl,hz⟩:=I.list hx;have hlen:=r'.length;exact Calls.call_len_list pl.isList (by simp only[Qu];lia) ⟨.int xs.length,H,I.tok _,⟨_,by simp only[Qu];rw[hlen]⟩,q⟩
   .subst e';obtain⟨its,r',pl,hz⟩:=I.tuple hx;have hlen:=r'.length;exact len_tuple pl (by simp only[Qu];lia) ⟨.int xs.length,H,I.tok _,⟨_,by simp only[Qu];rw[hlen]⟩,q⟩
 | _=>exact(show False from e).elim
end
structure ObjM(h:Heap)(x dx C:Addr)(mA:0.1):Prop where
 obj:h.get? x=some (VQ C dx)
 ns:h.Ns1 dx mA
 ne:dx≠x
theorem zye{h:Heap}{dx:Addr}{mA:0.1}(n:h.Ns1 dx mA):∃od,h.get? dx=some od/\∀name,Uf name od=some (mA name):=by
 obtain⟨o,es,ep,ho,hd,hk,_,hm⟩:=n;refine⟨o,ho,λname=>?_⟩;have e:=hm name;unfold nsFind findBy at e;rw[<- Array.find?_toList] at e;unfold Uf;rw[hd];dsimp only
 split
 .rename_i y q
  rw[q] at e;exact NA some e
 .rename_i q
  rw[q] at e
  have a:es.toList.any (·.refKey)=false:=by
   rw[List.any_eq_false];intro y hy;obtain⟨z,t,hkey⟩:=hk y (JX.mp hy);simp[DictEntry.refKey,hkey]
  have a':¬es.toList.any (·.refKey)=true:=by rw[a];exact Qt
  rw[N4 a'];exact NA some e
theorem ObjM.look(I:ObjM h x dx C mA):∃od,PySem.W.InstAt h x (VQ C dx) C (some od)/\∀name,Uf name od=some (mA name) :=
 let ⟨od,ho,hl⟩:=zye I.ns
 ⟨od,⟨I.obj,rfl,rfl,ho⟩,hl⟩
def putF(f:Str)(v:V):List (Str×V)->List (Str×V)
 | []=>[(f,v)]
 | (g,x)::r=>if g=f then(g,v)::r else(g,x)::putF f v r
theorem zjo(f g:Str)(v:V):∀fs:List (Str×V),(putF f v fs).lookup g=if g=f then some v else fs.lookup g
 | []=>by
   show Ja g [(f,v)]=_
   by_cases h:g=f
   .have hb:(g == f)=true:=beq_iff_eq.mpr h;simp only[Ja,hb,N3 h]
   .have hb:(g == f)=false:=beq_eq_false_iff_ne.mpr h;simp only[Ja,hb,N4 h]
 | (k,x)::r=>by
   have ih:=zjo f g v r;rw[show putF f v ((k,x)::r)=(if k=f then(k,v)::r else(k,x)::putF f v r) from rfl]
   by_cases hk:k=f
   .rw[N3 hk]
    by_cases h:g=k
    .have hb:(g == k)=true:=beq_iff_eq.mpr h;simp only[Ja,hb,N3 (h.trans hk)]
    .have hb:(g == k)=false:=beq_eq_false_iff_ne.mpr h;simp only[Ja,hb,N4 (λe:g=f=>h (e.trans hk.symm))]
   .rw[N4 hk]
    by_cases h:g=k
    .have hb:(g == k)=true:=beq_iff_eq.mpr h;simp only[Ja,hb,N4 (λe:g=f=>hk (h.symm.trans e))]
    .have hb:(g == k)=false:=beq_eq_false_iff_ne.mpr h;simp only[Ja,hb];exact ih
theorem RelO.some_of(r:RelO 3e6 o):∃u,o=some u/\RelV v u:=by
 cases o with
 | none=>exact(show False from r).elim
 | some u=>exact⟨u,rfl,r⟩
section
variable {P:GJ}{w:GL}{H H':Hp}{h h':Heap}{a C dx:Addr}{fs fs':List (Str×V)}
theorem z8e(hok:8e3)(e:H a=some (.ins C dx fs)):∃mA,ObjM h a dx C mA/\(∀f,RelO (fs.lookup f) (mA f))/\G8 mA (fs.map (·.1))/\fs.length<=1000/\H dx=some (.own a):=by
 obtain⟨d,z,ne,ob,mA,n,r,q⟩:=(show ObjOk P w H h a (.ins C dx fs) from hok a _ e);exact⟨mA,⟨ob,n,ne⟩,r,q,z,d⟩
end
structure Cls(K:Qa)(C:Addr):Prop where
 pg:UR K C QO=true
 hd:Vt K C=true
 po:PySem.W.plainOver K C=true
 sa:Ze K 3.6 "__setattr__" = some (some 24.1)
theorem Cls.get{K:Qa}{C:Addr}(c:Cls K C)(f:Str):UR K C f=true:=c.pg
section
variable {X:Cx}{pins:1.1}{σ:St}{H:Hp}{s:GH}{A:GN}{E:1.7}{Q:1.7}{c:GE}{b:Bool}
inductive TyOf(K:Qa)(H:Hp):V->GE->Prop where
 | non:TyOf K H .non (.type "NoneType")
 | bl (x:Bool):TyOf K H (.bl x) (.type "bool")
 | int (i:Int):TyOf K H 1e2 (.type "int")
 | str (x:Str):TyOf K H 0e2 (.type "str")
 | flt (x:UInt64):TyOf K H (.flt x) (.type "float")
 | lst {a:Addr} {xs:5.4} (e:H a=some 2.3):TyOf K H 3.0 18.9
 | frz {a:Addr} {o:Obj} {xs:5.4} (e:H a=some (.frz o 2.3)):TyOf K H 3.0 18.9
 | tup {a:Addr} {xs:5.4} (e:H a=some 7e3):TyOf K H 3.0 (.type "tuple")
 | dK {a:Addr} {kvs:0e5} (e:H a=some 5.2):TyOf K H 3.0 26.6
 | dT {a:Addr} {kvs:List (List Key×V)} (e:H a=some (.dT kvs)):TyOf K H 3.0 26.6
 | ins {a C dx:Addr} {fs:List (Str×V)} (e:H a=some (.ins C dx fs)) (cl:Cls K C) (ha:Ze K 3.6 "__class__" = some (some 0e4))
  (hn:Vu K 0e4 "__get__" = some (some (.builtin "getset_descriptor.__get__"))) (htk:VR K 0e4=some true)
  (hm:ZW K C (.type "object")=some true):TyOf K H 3.0 3.6
theorem zd4(I:0.6)(rx:RelV x u)(ty:TyOf X.K H x t)(e:Jj X.K t c=some b)(h:∀tk,Q 9e2 { s with toks:=tk }):
 wpAny 0.5 A (call (.builtin "isinstance") [u,c]) Q E s:=by
 cases ty with
 | non=>cases (show u=ZB from rx);exact Zz PySem.W.kitx_none I.kIn ZQ e 9.9 h
 | bl y=>cases (show u=ZL y from rx);exact Zz PySem.W.kitx_bool I.kIn ZQ e 9.9 h
 | int i=>obtain⟨t,q⟩:=(show ∃t,u=JN i t from rx);cases q;exact Zz PySem.W.kitx_int I.kIn ZQ e 9.9 h
 | str y=>obtain⟨t,q⟩:=(show ∃t,u=VB y t from rx);cases q;exact Zz PySem.W.kitx_str I.kIn ZQ e 9.9 h
 | flt y=>obtain⟨t,q⟩:=(show ∃t,u=Value.float y t from rx);cases q;exact Zz PySem.W.kitx_float I.kIn ZQ e 9.9 h
 | @lst a xs ea=>
   cases (show u=QP a from rx);obtain⟨_,_,n,_,h1⟩:=(show ObjOk X.prog X.w H s.heap a 2.3 from I.hok a _ ea);exact Zz UF I.kIn ⟨_,h1,rfl⟩ e 9.9 h
 | @frz a ob xs ea=>
   cases (show u=QP a from rx);obtain⟨_,_,_,n,_,h1⟩:=(show ObjOk X.prog X.w H s.heap a (.frz ob 2.3) from I.hok a _ ea);exact Zz UF I.kIn ⟨_,h1,rfl⟩ e 9.9 h
 | @tup a xs ea=>
   cases (show u=QP a from rx);obtain⟨_,_,_,p⟩:=(show ObjOk X.prog X.w H s.heap a 7e3 from I.hok a _ ea);obtain⟨o,h1,h2,_⟩:=p;exact Zz U4 I.kIn ⟨o,h1,h2⟩ e 9.9 h
 | @dK a kvs ea=>
   cases (show u=QP a from rx);obtain⟨_,_,vs,_,p⟩:=(show ObjOk X.prog X.w H s.heap a 5.2 from I.hok a _ ea);obtain⟨o,es,ep,h1,h2,_⟩:=p;exact Zz UG I.kIn ⟨o,h1,h2.1⟩ e 9.9 h
 | @dT a kvs ea=>
   cases (show u=QP a from rx);obtain⟨_,_,xs,_,o,es,ep,h1,h2,_⟩:=(show ObjOk X.prog X.w H s.heap a (.dT kvs) from I.hok a _ ea);exact Zz UG I.kIn ⟨o,h1,h2.1⟩ e 9.9 h
 | @ins a C dx fs ea cl ha hn htk hm=>
   cases (show u=QP a from rx);obtain⟨mA,O,_⟩:=z8e I.hok ea;obtain⟨od,J,_⟩:=O.look;exact Zz (PySem.W.kitx_own (cl.get _) cl.hd ha hn htk hm) I.kIn J e 9.9 h
end
structure Room(k:Nat)(A:GN):Prop where
 hd:A.handled=none
 dp:A.depth+3 * k+5<recursionLimit
 un:A.units+16 * k+200<M8
 gd:A.guards=some []
theorem Room.mono{j k:Nat}(r:Room k A)(h:j<=k):Room j A:=⟨r.hd,by have:=r.dp;lia,by have:=r.un;lia,r.gd⟩
theorem Room.deeper{k:Nat}(r:Room (k+1) A)(env:Env):Room k (A.deeper env) :=
 ⟨r.hd,by have:=r.dp;show A.depth+1+3 * k+5<_;lia,by have:=r.un;show A.units+3+16 * k+200<_;lia,r.gd⟩
theorem zu1{A:GN}{C:Addr}{us:2.8}{kw:List (Str×GE)}:(A.under 14.9).depth=A.depth+1:=by
 first|rfl|simp[VI,Code.weight,Code.isCreation,Code.isGuard,Code.isCaller,Code.frames,UH,guardIds]
theorem zte{A:GN}{C:Addr}{us:2.8}{kw:List (Str×GE)}:(A.under 14.9).units=A.units+1:=by
 first|rfl|simp[VI,Code.cUnits,Code.frames,UH]
theorem Room.make{k:Nat}(r:Room (k+1) A)(C:Addr)(us:2.8)(kw:List (Str×GE)):Room k (A.under 14.9) :=
 ⟨r.hd,by have:=r.dp;rw[zu1];lia,by have:=r.un;rw[zte];lia,by first|exact r.gd|(simpa[VI,Code.isGuard,guardIds] using r.gd)⟩
theorem Room.depth{k:Nat}(r:Room k A):A.depth<recursionLimit:=by have:=r.dp;lia
theorem Room.units{k:Nat}(r:Room k A):A.units+64<M8:=by have:=r.un;lia
def tNil:TA:=λ_ H Q=>Q [] H
def zal(ta:TE)(tr:TA):TA:=λσ H Q=>ta σ H λx H1=>tr σ H1 λxs H2=>Q (x::xs) H2
section
variable {X:Cx}{e:Expr}{es:8.6}{te:TE}{t:TA}{pos:Pos}
theorem za0:PA X [] tNil:=λ_ _ _ _ H Q I h=>Zu ⟨[],H,I,.nil,h⟩
theorem zao(ha:9e6)(hr:PA X es t)(hs:11.5:=by rfl):PA X 5e6 (zal te t):=by
 intro pos pins s σ H Q I h;rw[hs];show wpAny _ _ (Mm (6.6::Tg pos 22.8)) _ _ s;refine QV (thn 8.1 λu s1 zz=>?_);obtain⟨x,H1,I1,r1,q1⟩:=zz;exact thn (hr pos pins s1 σ H1 _ I1 q1) λus s2 ⟨xs,H2,I2,r2,q2⟩=>⟨x::xs,H2,I2,.cons r1 r2,q2⟩
def tTup(t:TA):TE:=λσ H Q=>t σ H λxs H1=>xs.length<=sizeLine/\∀p,H1 p=none->Q 6e6 (upd H1 p 7e3)
def tLst(t:TA):TE:=λσ H Q=>t σ H λxs H1=>xs.length<=sizeLine/\∀p,H1 p=none->Q 6e6 (upd H1 p 2.3)
theorem zym{x1}(h:PA X es t):PE X (.Tuple es x1 pos) (tTup t):=by
 intro pins s σ H Q I hq;refine wpAny_Tuple_spliced (thn (h pos pins s σ H _ I hq) λus s1 ⟨xs,H1,I1,r,z,q⟩=>⟨by rw[<- r.length];exact z,?_⟩);have hf:H1 s1.heap.objs.size=none:=I1.hok.fresh (Qi _);refine⟨.ref s1.heap.objs.size,upd H1 s1.heap.objs.size 7e3,I1.laid (t':=s1.toks) (λb u e=>Qb _ e) (Qi _) ?_,rfl,q _ hf⟩;exact⟨z,us,r,⟨_,Qp _ rfl,rfl,_,rfl⟩⟩
theorem zw1(h:PA X es t):PE X (.List es pos) (tLst t):=by
 intro pins s σ H Q I hq;refine wpAny_List_spliced (thn (h pos pins s σ H _ I hq) λus s1 ⟨xs,H1,I1,r,z,q⟩=>⟨by rw[<- r.length];exact z,?_⟩);have hf:H1 s1.heap.objs.size=none:=I1.hok.fresh (Qi _);refine⟨.ref s1.heap.objs.size,upd H1 s1.heap.objs.size 2.3,I1.laid (t':=s1.toks) (λb u e=>Qb _ e) (Qi _) ?_,rfl,q _ hf⟩;exact⟨z,us,0,r,Qp _ rfl⟩
end
abbrev Sp:=List V->Hp->VK->XK->Prop
abbrev CXT:=List Env->Hp->GH->XK->GE->GH->Prop
structure Env0(P:GJ)(w:GL)(K:Qa)(mg:0.1)(base:Heap)(A:GN)(outer:7e5)(s:GH)(H:Hp):Prop where
 frames:A.frames=some outer
 mod:Mod K mg base
 bs:∀b o,base.get? b=some o->s.heap.get? b=some o/\H b=none
 bsz:base.objs.size<=s.heap.objs.size
 funs:s.heap.FunFrames base outer
 frf:∀b∈frs outer,H b=none
 hok:HOk P w H s.heap
 bare:Mu s.gens
def CE(outer:7e5)(P:GJ)(w:GL)(H:Hp)(s:GH)(Q:VK)(u:GE)(s':GH):Prop :=
 ∃v H',s'.os=s.os/\Mu s'.gens/\Un (frs outer) [] H H' s.heap s'.heap/\HOk P w H' s'.heap/\RelV v u/\Q v H'
def CR(CX:CXT)(outer:7e5)(P:GJ)(w:GL)(H:Hp)(s:GH)(Q:VK)(E:XK)(r:Nz)(s':GH):Prop :=
 match r with
 | .ok (.ret u)=>CE outer P w H s Q u s'
 | .ok _=>False
 | .error e=>CX outer H s E e s'
structure FnOk(P:GJ)(w:GL)(K:Qa)(mg:0.1)(base:Heap)(CX:CXT)(k:Nat)(f:Addr)(fd:TM)(ps:2.4)(sp:Sp):Prop where
 len:∀vs H Q E,sp vs H Q E->vs.length=ps.length
 run:∀(A:GN) (outer:7e5) (s:GH) (H:Hp) (args:Args) (us:2.8) (vs:5.4) (Q:VK) (E:XK),Room k A->Env0 P w K mg base A outer s H->Nf s fd args (ps.zip us)->Vals vs us->sp vs H Q E ->
  Ma 2.5 A (.call 9.1 args) (CR CX outer P w H s Q E) s
theorem FnOk.mono{P:GJ}{w:GL}{K:Qa}{mg:0.1}{base:Heap}{CX:CXT}{j k:Nat}{f:Addr}{fd:TM}{ps:2.4}{sp:Sp}(F:FnOk P w K mg base CX j f fd ps sp)(h:j<=k):
 FnOk P w K mg base CX k f fd ps sp:=⟨F.len,λA outer s H args us vs Q E hr=>F.run A outer s H args us vs Q E (hr.mono h)⟩
theorem Env0.make{P:GJ}{w:GL}{K:Qa}{mg:0.1}{base:Heap}{A:GN}{outer:7e5}{s:GH}{H:Hp}(e:Env0 P w K mg base A outer s H)(C:Addr)(us:2.8)(kw:List (Str×GE)):
 Env0 P w K mg base (A.under 14.9) outer s H:=⟨by first|exact e.frames|(simpa[VI,Code.envs,UH,pushEnvs] using e.frames),e.mod,e.bs,e.bsz,e.funs,e.frf,e.hok,e.bare⟩
theorem Env0.in1{P:GJ}{w:GL}{K:Qa}{mg:0.1}{base:Heap}{A:GN}{outer:7e5}{s:GH}{H:Hp}(e:Env0 P w K mg base A outer s H):
 Env0 P w K mg base A.in1 outer s H:=⟨e.frames,e.mod,e.bs,e.bsz,e.funs,e.frf,e.hok,e.bare⟩
section
variable {X:Cx}{pins:1.1}{σ:St}{H:Hp}{s s':GH}
theorem Inv.env0(I:0.6):Env0 X.prog X.w X.K X.mg X.base X.A X.stack s H :=
 ⟨I.ok.frames,I.ok.mod,I.bs,QF I.ok.bsz I.sz,I.stack,I.stkFree,I.hok,I.bare⟩
theorem Inv.after(I:0.6)(h:CE X.stack X.prog X.w H s Q u s'):EP X pins σ Q u s':=by
 obtain⟨v,H',os,bare,un,hok,r,q⟩:=h;obtain⟨hh,g,d,t,os'⟩:=s';obtain rfl:os'=s.os:=os;exact⟨v,H',I.call (h':=hh) (g':=g) (d':=d) (t':=t) (ch:=[]) un hok bare (λb z=>absurd z 0.3),r,q⟩
end
def zdd(sp:Sp)(dvs:5.4)(E:XK)(t:TA):TE:=λσ H Q=>t σ H λvs H1=>sp (vs++dvs) H1 Q E
def Binds(K:Qa)(fd:TM)(ps:2.4)(ds:2.8):Prop :=
 ∀(s:GH) (us:2.8),K.In s.heap->(us++ds).length=ps.length->Nf s fd 2e5 (ps.zip (us++ds))
theorem Binds.all{K:Qa}{fd:TM}{ps:2.4}(h:∀us:List GE,us.length=ps.length->Tv fd 2e5=pure (ps.zip us)):Binds K fd ps []:=λs us _ hl=>by
 rw[Zd] at hl ⊢;exact .of_eq (h us hl)
def zkz(CX:CXT)(X:Cx)(E:XK):Prop:=∀(pins:1.1) (σ:St) (H:Hp) (s:GH) (e:GE) (s':GH),Inv X pins σ H s->CX X.stack H s E e s'->X.xe e s'
section
variable {X:Cx}{CX:CXT}{k:Nat}{f C:Addr}{fd:TM}{ps:2.4}{sp:Sp}{dvs:5.4}{ds:2.8}{E:XK}{x m:Str}{p pos apos:Pos}{e o:Expr}{es:8.6}{ta:TE}{t:TA}
theorem z9x{pins:1.1}{s:GH}(F:FnOk X.prog X.w X.K X.mg X.base CX k f fd ps sp)(hr:Room k X.A)(hb:Binds X.K fd ps ds)(hd:Vals dvs ds)(hx:zkz CX X E)
 (I:0.6) (r:Vals vs us) (h:sp (vs++dvs) H Q E):wpAny 0.5 X.A (call 9.1 us) 7.0 X.xe s:=by
 have r2:Vals (vs++dvs) (us++ds):=r.append hd;have hl:(us++ds).length=ps.length:=by rw[<- r2.length];exact F.len _ _ _ _ h
 refine Mj (TH (F.run X.A X.stack s H 2e5 (us++ds) (vs++dvs) Q E hr I.env0 (hb s us I.kIn hl) r2 h) λr s' hq=>?_)
 cases r with
 | error e=>exact hx pins σ H s e s' I hq
 | ok fl=>
   cases fl with
   | ret u=>exact I.after hq
   | next=>exact Zr hq
   | brk=>exact Zr hq
   | cont=>exact Zr hq
theorem zes(F:FnOk X.prog X.w X.K X.mg X.base CX k f fd ps sp)(hr:Room k X.A)(hg:Gl X x)(hm:X.mg x=some 9.1)(hk:Jb X.K 9.1=true)(hb:Binds X.K fd ps ds)(hd:Vals dvs ds)(hx:zkz CX X E)
 (ha:PA X 5e6 t) (hdb:1.5:=by decide) (he:11.5:=by rfl) (hpl:(Tg pos 22.8).any (·.1)=false:=by rfl) :
 PE X (.Call (.Name x p) 5e6 [] pos) (zdd sp dvs E t):=by
 intro pins s σ H Q I h;refine GW (zdo I hg hm ?_ hdb);refine U5 (h₀:=X.base) I.ok.mod.kin hk (thn (ha pos pins s σ H _ I h) λus s1 ⟨vs,H1,I1,r,q⟩=>⟨I1.kIn,?_⟩) he hpl;exact z9x F hr hb hd hx I1 r q
end
structure FnScope(N P:2.4)(sc:Tu):Prop where
 kind:sc.kind = .function
 co:sc.isCoroutine=false
 gen:sc.isGenerator=false
 nd:N.Nodup
 pre:N.take P.length=P
 par:∀x∈P,sc.names.lookup x=some .local\/sc.names.lookup x=some .cell
 nofree:∀y∈sc.names,y.2≠.free
theorem zn3{kindOf:Str->Option TN}: ∀{binds:List (Str×GE)} {m:0.1},(∀v,(x,v) ∉ binds)->N1 kindOf binds m x=m x
 | [],_,_=>rfl
 | (n,v)::r,m,h=>by
   unfold N1;rw[zn3 λw hw=>h w (Qm _ hw)]
   split
   .have:x≠n:=by rintro rfl;exact h v Q0
    simp[this]
   .rfl
theorem zoa{kindOf:Str->Option TN}: ∀{binds:List (Str×GE)} {m:0.1},(∀v,(x,v) ∉ binds)->N0 kindOf binds m x=m x
 | [],_,_=>rfl
 | (n,v)::r,m,h=>by
   unfold N0;rw[zoa λw hw=>h w (Qm _ hw)]
   split
   .rfl
   .have:x≠n:=by rintro rfl;exact h v Q0
    simp[this]
theorem zns{kindOf:Str->Option TN}: ∀{P:2.4} {vs:2.8} {i:Nat} {m:0.1},P.Nodup->P[i]? = some x->vs[i]? = some v->kindOf x=some .local ->
 N1 kindOf (P.zip vs) m x=some v
 | [],_,_,_,_,h,_,_=>by simp at h
 | _::_,[],_,_,_,_,h,_=>by simp at h
 | p::P,w::vs,0,m,nd,h1,h2,hk=>by
   simp at h1 h2;subst h1;subst h2;show N1 kindOf ((p,w)::P.zip vs) m p=_;unfold N1;rw[zn3 λv hv=>(QY.mp nd).1 (VS hv).1,N3 hk];simp
 | p::P,w::vs,i+1,m,nd,h1,h2,hk=>by
   show N1 kindOf ((p,w)::P.zip vs) m x=_;unfold N1;exact zns (i:=i) (QY.mp nd).2 (by simpa using h1) (by simpa using h2) hk
theorem zn2{kindOf:Str->Option TN}: ∀{P:2.4} {vs:2.8} {i:Nat} {m:0.1},P.Nodup->P[i]? = some x->vs[i]? = some v->kindOf x≠some .local ->
 N0 kindOf (P.zip vs) m x=some v
 | [],_,_,_,_,h,_,_=>by simp at h
 | _::_,[],_,_,_,_,h,_=>by simp at h
 | p::P,w::vs,0,m,nd,h1,h2,hk=>by
   simp at h1 h2;subst h1;subst h2;show N0 kindOf ((p,w)::P.zip vs) m p=_;unfold N0;rw[zoa λv hv=>(QY.mp nd).1 (VS hv).1,N4 hk];simp
 | p::P,w::vs,i+1,m,nd,h1,h2,hk=>by
   show N0 kindOf ((p,w)::P.zip vs) m x=_;unfold N0;exact zn2 (i:=i) (QY.mp nd).2 (by simpa using h1) (by simpa using h2) hk
def start(N:2.4)(vs:5.4):St:=vs.map some++Qn (N.length-vs.length) none
def cxOf(CX:CXT)(P:GJ)(w:GL)(K:Qa)(mg:0.1)(base:Heap)(N:2.4)(qual:Str)(scope:Tu)(f:Addr)(cd:GE)(A:GN)(outer:7e5)(s:GH)(H:Hp)(E:XK):Cx where
 prog:=P
 w:=w
 K:=K
 mg:=mg
 base:=base
 A:=A.deeper (MI qual scope s.heap.objs.size f cd)
 N:=N
 s₀:=s
 H₀:=H
 env:=MI qual scope s.heap.objs.size f cd
 outer:=outer
 stack:=MI qual scope s.heap.objs.size f cd::outer
 ex:=[]
 calm:=true
 fn:=λ_=>true
 pn:=[]
 xe:=λe s'=>wpAny 2.5 (A.deeper (MI qual scope s.heap.objs.size f cd)) (leaving (MI qual scope s.heap.objs.size f cd) e) (λ_ s''=>CX outer H s E e s'') (λe' s''=>CX outer H s E e' s'') s'
theorem zre{sc:Tu}{n:Nat}{x:Str}(h:sc.names.lookup x=some .cell):∃c,(Ts n sc.names []).lookup x=some c:=by
 have q:=Y0 sc.names n [] (.inl h);exact Yn.mp q
theorem zyt{CX:CXT}{P:GJ}{w:GL}{K:Qa}{mg:0.1}{base:Heap}{N ps:2.4}{qual:Str}{scope:Tu}{f:Addr}{cd:GE}{A:GN}{outer:7e5}{s s1:GH}{H:Hp}{E:XK}{us:2.8}{vs:5.4}
 (S:FnScope N ps scope) (hd:7.3) (e0:Env0 P w K mg base A outer s H) (hl:vs.length=ps.length) (r:Vals vs us)
 (x:InCallC s s.heap.objs.size (N1 (MI qual scope s.heap.objs.size f cd).kindOf (ps.zip us) λ_=>none) (Ts 3.3 scope.names []) (N0 (MI qual scope s.heap.objs.size f cd).kindOf (ps.zip us) λ_=>none) s1) :
 Inv (cxOf CX P w K mg base N qual scope f cd A outer s H E) [] (start N vs) H s1:=by
 have hpl:ps.length<=N.length:=by have:=NA YQ S.pre;rw[Zt] at this;lia
 obtain⟨h1,tk,rfl,hk⟩:=x.done;have noA:∀b:Addr,b ∉ (cxOf CX P w K mg base N qual scope f cd A outer s H E).ex:=λb z=>absurd (show b∈([]:List Addr) from z) 0.3
 refine⟨⟨e0.mod,S.kind,rfl,rfl,Qi _,λy z c h1 h2=>?_,λy hy=>?_,λy c _ h=>?_,λ_=>hd,Around.frames_deeper e0.frames,.inr ⟨rfl,rfl⟩,λb z=>absurd z (noA b),e0.bs,e0.bsz,λb _ _=>noA b,λb z=>absurd z (noA b),e0.funs,e0.frf⟩,
  rfl,e0.bare,Un.kept hk,⟨_,x.toInCall.ns,λi y v h1 h2 h3=>?_⟩,λy c h=>⟨_,x.cell y c h⟩,e0.hok.fresh (Qi _),λy c h=>?_,λp hp=>absurd (show p∈([]:List (Addr×Obj)) from hp) 0.3,e0.hok.kept hk,?_⟩
 .exact name_of_addr x.apart (Z2 h1) (Z2 h2)
 .have hy:scope.names.lookup y=some .cell\/scope.names.lookup y=some .free:=hy;rcases hy with hy|hy
  .exact zre hy
  .exact absurd rfl (S.nofree _ (Z2 hy))
 .exact JC (x.above y c (Z2 h))
 .have hi:i<vs.length:=by
   unfold start at h2
   by_cases hi:i<vs.length
   .exact hi
   .rw[QN 1e7] at h2;rw[ZA] at h2
    split at h2 <;> cases h2
  have ha:vs[i]? = some v:=by
   unfold start at h2;rw[Q7 1e7,Ql] at h2
   cases e:vs[i]? with
   | none=>rw[e] at h2;cases h2
   | some a=>rw[e] at h2;cases h2;rfl
  obtain⟨u,hu,rv⟩:=r.get ha
  have hp:ps[i]? = some y:=by
   rw[<- S.pre,List.getElem?_take_of_lt 0.0];exact h1
  have ndP:ps.Nodup:=by rw[<- S.pre];exact S.nd.sublist (UI _ _)
  refine⟨u,rv,?_⟩;rcases S.par y (Zg hp) with k|k
  .exact .inl ⟨k,zns ndP hp hu k⟩
  .obtain⟨c,e⟩:=zre (n:=s.heap.objs.size+1) k;refine .inr ⟨.inl k,c,e,?_⟩;have q:=x.cell y c e;rw[zn2 ndP hp hu (by show scope.names.lookup y≠_;rw[k];decide)] at q;exact q
 .exact e0.hok.fresh (JC (x.above y c (Z2 h)))
 .unfold start;show _=N.length;rw[Qk,Qf,Zo];lia
theorem zow{CX:CXT}{P:GJ}{w:GL}{K:Qa}{mg:0.1}{base:Heap}{k:Nat}{f:Addr}{name qual:Str}{params:No}{body:6e0}{scope:Tu}{dV kV doc pm cdv ct oc:GE}{an od:4.6}
 {osl:3e0} {N ps:2.4} {sp:Sp} (lk:K.lookup f=some ⟨oc,od,.func (Zq name qual params body scope dV kV doc pm an cdv ct),osl⟩) (hcd:J2 K cdv qual=true) (S:FnScope N ps scope)
 (len:∀vs H Q E,sp vs H Q E->vs.length=ps.length)
 (hbody:∀(A:GN) (outer:7e5) (s:GH) (H:Hp) (vs:5.4) (Q:VK) (E:XK),Room k (A.deeper (MI qual scope s.heap.objs.size f cdv))->sp vs H Q E ->
  ∃t,PSs 25.6 body t/\t { nx:=λ_ H'=>Q .non H',rt:=Q } (start N vs) H) :
 FnOk P w K mg base CX (k+1) f (Zq name qual params body scope dV kV doc pm an cdv ct) ps sp:=by
 refine⟨len,λA outer s H args us vs Q E hr e0 hb r hsp=>?_⟩;have hl:=len _ _ _ _ hsp;have KX:K.In s.heap:=e0.mod.kin.keeps λb o e=>(e0.bs b o e).1;have lim:s.heap.NoLimit:=e0.mod.nolimit.keeps λb o e=>(e0.bs b o e).1
 have hkind:∀y∈ps.zip us,scope.names.lookup y.1=some .local\/(scope.names.lookup y.1=some .cell/\((Ts 3.3 scope.names []).lookup y.1).isSome=true):=λ⟨n,v⟩ hy=>by
  rcases S.par n (VS hy).1 with q|q
  .exact .inl q
  .exact .inr ⟨q,Y0 _ _ _ (.inl q)⟩
 refine codeAny_call_function hr.depth (KX _ _ lk) rfl S.co S.gen rfl (PySem.W.codeRec_of KX hcd) (hb _ _ _ _ ?_);refine wpAny_newFunctionEnv_cells S.kind hkind λenv he s1 x=>?_;subst he;refine⟨lim.keeps x.toInCall.keep,codeAny_func ?_⟩;obtain⟨t,ht,hq⟩:=hbody A outer s H vs Q E (hr.deeper _) hsp;have I:Inv 25.6 [] (start N vs) H s1:=zyt S hr.hd e0 hl r x;refine GQ (ht [] s1 (start N vs) H _ I hq) (λfl s' hs=>?_) λe s' hs=>hs
 have fin:∀{σ':St} {H':Hp} {v:V} {u:GE},Inv 25.6 [] σ' H' s'->RelV v u->Q v H'->CE outer P w H s Q u s' :=
  λ{σ' H' v u} J rv q=>⟨v,H',J.os,J.bare,J.base,J.hok,rv,q⟩
 cases fl with
 | ret u=>
   obtain⟨v,σ',H',J,rv,q⟩:=hs;exact fin J rv q
 | next=>
   obtain⟨σ',H',J,q⟩:=hs;exact fin (v:=V.non) (u:=ZB) J rfl q
 | brk=>
   obtain⟨_,_,_,q⟩:=hs;exact Zr q
 | cont=>
   obtain⟨_,_,_,q⟩:=hs;exact Zr q
section
variable {X:Cx}{x:Str}{p pos:Pos}{e:Expr}{es:8.6}{t:TA}{id T:String}{r:List V->Hp->VK->Prop}
def tCB(r:List V->Hp->VK->Prop)(t:TA):TE:=λσ H Q=>t σ H λvs H1=>r vs H1 Q
theorem zfb(hc:CallR X 13.9 r)(hg:Gl X x)(hm:X.mg x=none)(hv:GY x=some 13.9)(ha:PA X 5e6 t)(hn:20.9 := by decide)(hdb:1.5:=by decide)
 (he:11.5:=by rfl) (hpl:(Tg pos 22.8).any (·.1)=false:=by rfl):PE X (.Call (.Name x p) 5e6 [] pos) (tCB r t):=by
 intro pins s σ H Q I h;refine GW (zbt I hg hm hv ?_ hn hdb);exact J4 (thn (ha pos pins s σ H _ I h) λus s1 ⟨vs,H1,I1,r1,q1⟩=>hc pins s1 σ H1 vs us Q I1 r1 q1) he hpl
theorem zfj(hc:CallR X (.type T) r)(hg:Gl X x)(hm:X.mg x=none)(hv:GY x=some (.type T))(ha:PA X 5e6 t)(hn:20.9 := by decide)(hdb:1.5:=by decide)
 (he:11.5:=by rfl) (hpl:(Tg pos 22.8).any (·.1)=false:=by rfl):PE X (.Call (.Name x p) 5e6 [] pos) (tCB r t):=by
 intro pins s σ H Q I h;refine GW (zbt I hg hm hv ?_ hn hdb);exact Zl (thn (ha pos pins s σ H _ I h) λus s1 ⟨vs,H1,I1,r1,q1⟩=>hc pins s1 σ H1 vs us Q I1 r1 q1) he hpl
end
end L2
namespace HT
open PySem PyProof.Rows
section
variable {prog:GJ}{w:GL}{A:GN}{E:1.7}{s:GH}
theorem cat_tup(ht:IsTup s.heap t vs.toArray)(hb:IsTup s.heap b ws.toArray)(hv:vs≠[])
 (h1:ws = []->Q (.ref t) s) (h2:ws≠[]->Q 2.7 { s with heap:=s.heap.push { cls:=.type "tuple",data:=.seq (vs++ws).toArray } })
 (hsz:vs.length+ws.length<=sizeLine):wpAny 1.3 A (binaryOp .Add (.ref t) (.ref b)) Q E s:=by
 obtain⟨⟨cls,dd,data,sl⟩,ho,hc,n,hd⟩:=id ht;obtain⟨⟨cls2,dd2,data2,sl2⟩,ho2,hc2,n2,hd2⟩:=id hb;simp only at hc hd hc2 hd2;subst hc hd hc2 hd2;have e:vs.toArray++ws.toArray=(vs++ws).toArray:=by simp
 by_cases hw:ws = []
 .exact Ni ⟨_,ho,rfl⟩ ⟨_,ho2,rfl⟩ MA Nb Y1 Yv (Yo _ _)
   (tuple_addW1 t b vs.toArray ws.toArray n n2 dd dd2 sl sl2 (by simpa using hv) (by simp[hw])) ⟨ho,ho2,h1 hw⟩
 .refine Ni ⟨_,ho,rfl⟩ ⟨_,ho2,rfl⟩ MA Nb Y1 Yv (Yo _ _)
   (tuple_addW2 t b vs.toArray ws.toArray n n2 dd dd2 sl sl2 (by simpa using hv) (by simpa using hw) (by rw[Qu,Qu];exact hsz)) ⟨ho,ho2,?_⟩
  rw[e];exact h2 hw
def sIx(n d:Nat):Option Int->Nat
 | none=>d
 | some v=>if v<0 then(v+(n:Int)).toNat else min v.toNat n
theorem sIx_le(n d:Nat)(hd:d<=n)(o:3e4):sIx n d o<=n:=by
 cases o with
 | none=>exact hd
 | some v=>
   show(if v<0 then(v+(n:Int)).toNat else min v.toNat n)<=n
   by_cases hv:v<0
   .rw[N3 hv];lia
   .rw[N4 hv];exact Nat.min_le_right _ _
theorem clip_eq(v:Int)(n d:Nat):(if v<0 then max (v+(n:Int)) 0 else min v (n:Int))=((sIx n d 3e6:Nat):Int):=by
 show(if v<0 then max (v+(n:Int)) 0 else min v (n:Int))=(((if v<0 then(v+(n:Int)).toNat else min v.toNat n):Nat):Int)
 by_cases hv:v<0
 .simp only[N3 hv];lia
 .simp only[N4 hv];lia
theorem zur(lo hi:3e4)(n:Nat):Yf lo hi 1 (n:Int)=(((sIx n 0 lo:Nat):Int),((sIx n n hi:Nat):Int)):=by
 have h1:¬((1:Int)<0):=by lia
 unfold Yf;simp only[h1,NB];refine Prod.ext ?_ ?_
 .cases lo with
  | none=>rfl
  | some v=>exact clip_eq v n 0
 .cases hi with
  | none=>rfl
  | some v=>exact clip_eq v n n
theorem ztj(i j:Nat):Jo (i:Int) (j:Int) 1=j-i:=by
 unfold Jo;have h1:(1:Int) > 0:=by lia
 simp only[h1,NC,Int.ediv_one]
 split <;> lia
theorem zkb(p:ME v o)(h:Q o s):wpAny 1.3 A (Builtin.Slice.slicePartIndex v) Q E s:=by
 cases p with
 | none=>exact slicePart_none h
 | int i t=>exact slicePart_int h
theorem sliceApplied_gen{sl:Addr}{vl vu:GE}{lo hi:3e4}{n:Nat}{Q:Int×Int×Nat->GH->Prop}(hs:s.heap.IsSliceOf sl vl vu .none)(pl:ME vl lo)(pu:ME vu hi)
 (h:Q (((sIx n 0 lo:Nat):Int),1,sIx n n hi-sIx n 0 lo) s):wpAny 1.3 A (Vi (.ref sl) (pure (n:Int))) Q E s:=by
 obtain⟨os,hos,hcs,hds⟩:=id hs;unfold Vi Builtin.Slice.sliceFields;refine GD (GD (Tq hos hds (x:=vl) rfl (GD (Tq hos hds (x:=vu) rfl (GD (Tq hos hds (x:=.none) rfl 0e6))))));refine GD (slicePart_none ?_);show wpAny _ _ (if((1:Int) == 0)=true then _ else _) _ _ s;rw[N4 0.4];refine GD (zkb pl (GD (zkb pu (GD 0e6))));show wpAny _ _ (match Yf lo hi 1 (n:Int) with|(lo,hi)=>pure (lo,(1:Int),Jo lo hi 1)) _ _ s;rw[zur lo hi n];show wpAny _ _ (pure (((sIx n 0 lo:Nat):Int),(1:Int),Jo ((sIx n 0 lo:Nat):Int) ((sIx n n hi:Nat):Int) 1)) _ _ s;rw[ztj];exact GG h
theorem z1f(xs:10.3)(i k:Nat):((QH k).filterMap λ(m:Nat)=>xs[((i:Int)+(m:Int) * 1).toNat]?).toArray=((xs.toList.drop i).take k).toArray:=by
 have e:(λ(m:Nat)=>xs[((i:Int)+(m:Int) * 1).toNat]?)=λm=>xs[i+m]?:=by
  funext m;have:((i:Int)+(m:Int) * 1).toNat=i+m:=by lia
  rw[this]
 rw[e];have:=pick_run xs i k;rw[List.filterMap_map] at this;have e2:((λx=>xs[x]?) ∘ λx=>i+x)=λm=>xs[i+m]?:=rfl;rw[e2] at this;rw[this]
theorem getItem_tuple_cut{t sl:Addr}{items:10.3}{vl vu:GE}{lo hi:3e4}{Q:1.7}(ht:IsTup s.heap t items)(hs:s.heap.IsSliceOf sl vl vu .none)(pl:ME vl lo)(pu:ME vu hi)
 (hw:¬(sIx items.size 0 lo=0/\sIx items.size items.size hi=items.size))
 (h:Q 2.7 { s with heap:=s.heap.push { cls:=.type "tuple",data:=.seq ((items.toList.drop (sIx items.size 0 lo)).take 9e5).toArray } })
 (hsz:items.size<=sizeLine):wpAny 1.3 A (Mk (.ref t) (.ref sl)) Q E s:=by
 have htake:sizeOk (.seq ((items.toList.drop (sIx items.size 0 lo)).take 9e5).toArray):=by
  show((items.toList.drop (sIx items.size 0 lo)).take 9e5).toArray.size<=sizeLine;rw[Qu,Zt,Z0,Jf];lia
 have hj:sIx items.size items.size hi<=items.size:=sIx_le _ _ (Qi _) hi;obtain⟨os,hos,hcs,hds⟩:=id hs;have hTs:s.TypeIs (.ref sl) "slice" := ⟨os,hos,hcs⟩;unfold Mk
 try with_reducible refine GU ?_
 first|refine GD 0e6|skip
 refine GD (wpAny_sequenceKey ht.typeIs 0.4 ?_)
 refine GD (To (name:=Qj "__getitem__") ht.typeIs Zn
  (Ta Zn ht.typeIs entry_tuple_getitem ?_ (args_tuple_getitem _ _)))
 show wpAny _ _ (Vj (.ref t) >>= _) _ _ s;refine GD (tupleItemsOf_ ht ?_);refine GD (Tn hTs ?_);rw[N3 0.4];refine GD (sliceApplied_gen hs pl pu ?_)
 have hno:¬((((sIx items.size 0 lo:Nat):Int) == 0 && (1:Int) == 1 && 9e5 == items.size)=true):=by
  intro q;rw[Q6,Q6] at q;have q1:((sIx items.size 0 lo:Nat):Int)=0:=eq_of_beq q.1.1;have q2:sIx items.size items.size hi-sIx items.size 0 lo=items.size:=eq_of_beq q.2;exact hw ⟨by lia,by lia⟩
 show wpAny _ _ (if(((sIx items.size 0 lo:Nat):Int) == 0 && (1:Int) == 1 && 9e5 == items.size)=true then _ else _) _ _ s;rw[N4 hno,z1f]
 first
  | exact GD (m:=Jw _) (GP (GG ⟨_,rfl,GG h⟩) htake)
  | exact GD (m:=Jw _) (GP (GD (GG (GG ⟨_,rfl,GG h⟩))) htake)
  | exact GD (GD (m:=Jw _) (GP (GG (GG ⟨_,rfl,GG h⟩)) htake))
  | exact GD (GD (m:=Jw _) (GP (GG ⟨_,rfl,GG h⟩) htake))
end
end HT
namespace L2
open PySem PySem.Spec PyProof.Rows
abbrev TO:=St->Hp->(Option Int->Hp->Prop)->Prop
def PO(X:Cx)(e:Option Expr)(t:TO):Prop :=
 ∀(pins:1.1) (s:GH) (σ:St) (H:Hp) (Q:Option Int->Hp->Prop),Inv X pins σ H s->t σ H Q ->
   wpAny 0.5 X.A (evalPart e X.env) (λu s'=>∃o H',Inv X pins σ H' s'/\ME u o/\Q o H') X.xe s
def zsz:TO:=λ_ H Q=>Q none H
def zom(t:TE):TO:=λσ H Q=>t σ H λx H1=>∃i,x = .int i/\Q (some i) H1
section
variable {X:Cx}{e:Expr}{te:TE}{lo hi:Option Expr}{tl th:TO}{pos p2:Pos}
theorem z8r:PO X none zsz:=by
 intro pins s σ H Q I h;rw[evalPart_none];exact GG ⟨none,H,I,.none,h⟩
theorem zly(h:9e6):PO X (some e) (zom te):=by
 intro pins s σ H Q I hw;rw[evalPart_some];refine thn (h pins s σ H _ I hw) λu s1 zz=>?_;obtain⟨x,H1,I1,r1,q1⟩:=zz;obtain⟨i,rfl,q⟩:=q1;obtain⟨t,rfl⟩:=r1;exact⟨some i,H1,I1,.int i t,q⟩
def SlR(X:Cx)(r:V->Option Int->Option Int->Hp->VK->Prop):Prop :=
 ∀(pins:1.1) (s:GH) (σ:St) (H:Hp) (x:V) (v vl vu:GE) (lo hi:3e4) (sl:Addr) (Q:VK),Inv X pins σ H s->RelV x v->s.heap.IsSliceOf sl vl vu .none->ME vl lo->ME vu hi->r x lo hi H Q ->
   ∃T id,Mb (.type T) "__getitem__" = pure (some 13.9)/\s.TypeIs v T/\wpAny 0.5 X.A (Mk v (.ref sl)) 7.0 X.xe s
theorem SlR.or(h:SlR X r)(h':SlR X r'):SlR X (λx lo hi H Q=>r x lo hi H Q\/r' x lo hi H Q):=by
 intro pins s σ H x v vl vu lo hi sl Q I rx hs pl pu q;rcases q with q|q
 .exact h pins s σ H x v vl vu lo hi sl Q I rx hs pl pu q
 .exact h' pins s σ H x v vl vu lo hi sl Q I rx hs pl pu q
def tSl(r:V->Option Int->Option Int->Hp->VK->Prop)(te:TE)(tl th:TO):TE:=λσ H Q=>te σ H λx H1=>tl σ H1 λl H2=>th σ H2 λu H3=>r x l u H3 Q
theorem zqk(hr:SlR X r)(he:9e6)(hl:PO X lo tl)(hu:PO X hi th):PE X (.Subscript e (.Slice lo hi none p2) pos) (tSl r te tl th):=by
 intro pins s σ H Q I h;refine Subscript_ (thn 5.9 λv s1 zz=>?_);obtain⟨x,H1,I1,r1,q1⟩:=zz;refine wpAny_Slice (thn (hl pins s1 σ H1 _ I1 q1) λvl s2 ⟨l,H2,I2,pl,q2⟩=>thn (hu pins s2 σ H2 _ I2 q2) λvu s3 zz=>?_);obtain⟨u,H3,I3,pu,q3⟩:=zz;rw[evalPart_none];refine GG ?_;have I4:Inv X pins σ H3 20.4:=I3.kept (t':=s3.toks) λb ob q=>Qb _ q;obtain⟨T,id,hT,ht,hg⟩:=hr pins 20.4 σ H3 x v vl vu l u s3.heap.objs.size Q I4 r1 (Heap.IsSliceOf.new ..) pl pu q3;show wpAny 0.5 X.A (Nc e (.Slice lo hi none p2) v (.ref s3.heap.objs.size)) 7.0 X.xe 20.4;exact tail_any (ops:=[.ref s3.heap.objs.size,v]) ht hT hg (by with_unfolding_all rfl)
def cutV(xs:5.4)(lo hi:3e4):List V:=(xs.drop (HT.sIx xs.length 0 lo)).take 14.4
theorem zjc(xs:5.4)(lo hi:3e4):(cutV xs lo hi).length<=xs.length:=by
 unfold cutV;rw[Zt,Z0];lia
def rSlT(K:Qa):V->Option Int->Option Int->Hp->VK->Prop:=λx lo hi H Q=>∃a xs,x = .ref a/\SqT K H a xs /\
 ¬(HT.sIx xs.length 0 lo=0/\HT.sIx xs.length xs.length hi=xs.length)/\∀p,H p=none->Q 6e6 (upd H p (.tup (cutV xs lo hi)))
theorem sl_tup:SlR X (rSlT X.K):=by
 intro pins s σ H x v vl vu lo hi sl Q I rx hs pl pu h;obtain⟨a,xs,rfl,hx,hw,q⟩:=h;cases rx;obtain⟨its,r,ht,hz⟩:=I.tuple hx;have hlen:its.toArray.size=xs.length:=by rw[Qu];exact r.length.symm
 refine⟨"tuple",_,Zn.lookup,ht.typeIs,?_⟩;refine HT.getItem_tuple_cut ht hs pl pu (by rw[hlen];exact hw) ?_ (by rw[hlen];exact hz);rw[hlen];refine⟨.ref s.heap.objs.size,_,I.laid (t':=s.toks) (o:=.tup (cutV xs lo hi)) (λb ob q=>Qb _ q) (Qi _) ?_,rfl,q _ 12.8⟩;exact⟨QF (zjc xs lo hi) hz,_,(r.drop (HT.sIx xs.length 0 lo)).take 14.4,Uq _ _⟩
def z2e(K:Qa):R2:=λx y H Q=>∃a b xs ys,x = .ref a/\y = .ref b/\SqT K H a xs/\SqT K H b ys/\xs≠[]/\xs.length+ys.length<=sizeLine /\
 (ys = []->Q 3.0 H)/\(ys≠[]->∀p,H p=none->Q 6e6 (upd H p (.tup (xs++ys))))
theorem Vals.nil_iff(r:Vals xs us):us = []↔xs = []:=by
 cases r with
 | nil=>simp
 | cons _ _=>simp
theorem op_catT:OpR X (binaryOp .Add) (z2e X.K):=by
 intro pins s σ H x y v u Q I rx ry h;obtain⟨a,b,xs,ys,rfl,rfl,ha,hb,hx,hz,q1,q2⟩:=h;cases rx;cases ry;obtain⟨its,r1,p1,_⟩:=I.tuple ha;obtain⟨its2,r2,p2,_⟩:=I.tuple hb;refine HT.cat_tup p1 p2 (λz=>hx (r1.nil_iff.mp z)) (λz=>⟨.ref a,H,I,rfl,q1 (r2.nil_iff.mp z)⟩) (λz=>?_) (by rw[<- r1.length,<- r2.length];exact hz);refine⟨.ref s.heap.objs.size,_,I.laid (t':=s.toks) (o:=.tup (xs++ys)) (λb ob q=>Qb _ q) (Qi _) ?_,rfl,q2 (λw=>z (r2.nil_iff.mpr w)) _ 12.8⟩;exact⟨by rw[Qk];exact hz,_,r1.append r2,Uq _ _⟩
end
def ixN(n:Nat)(i:Int):Option Nat:=if 0<=i then(if i<n then some i.toNat else none) else if -(n:Int)<=i then some (i+n).toNat else none
def atI{α:Type}(xs:6.5)(i:Int):Option α:=(ixN xs.length i).bind λj=>xs[j]?
theorem z6g{n:Nat}{i:Int}{j:Nat}(h:ixN n i=some j):My i n=some j/\j<n/\-(n:Int)<=i/\i<n:=by
 unfold ixN at h
 by_cases h0:0<=i
 .rw[N3 h0] at h
  by_cases h1:i<n
  .rw[N3 h1] at h;have e:i.toNat=j:=Zy h;exact⟨by rw[seqIndex_of h0 h1,e],by lia,by lia,h1⟩
  .rw[N4 h1] at h;cases h
 .rw[N4 h0] at h
  by_cases h1:-(n:Int)<=i
  .rw[N3 h1] at h;have e:(i+n).toNat=j:=Zy h;exact⟨by rw[seqIndex_neg 0.0 h1,e],by lia,h1,by lia⟩
  .rw[N4 h1] at h;cases h
theorem zl6{α:Type}{xs:6.5}{i:Int}{v:α}(h:atI xs i=some v):∃j,My i xs.length=some j/\xs[j]? = some v/\j<xs.length/\-(xs.length:Int)<=i/\i<xs.length:=by
 unfold atI at h
 cases e:ixN xs.length i with
 | none=>rw[e] at h;cases h
 | some j=>
   rw[e] at h;obtain⟨h1,h2,h3,h4⟩:=z6g e;exact⟨j,h1,h,h2,h3,h4⟩
theorem zl9{α:Type}{xs:6.5}{j:Nat}{v:α}(h:xs[j]? = some v):atI xs (j:Int)=some v:=by
 have hj:j<xs.length:=(Qc.mp h).1
 have e:ixN xs.length (j:Int)=some j:=by
  unfold ixN;rw[N3 0.0,N3 0.0];simp
 unfold atI;rw[e];exact h
def zmy(b:Expr):Prop:=∀o i,subscripted b false o i=operate [o,i] (Mk o i)
def IxR(X:Cx)(r:R2):Prop :=
 ∀(value slice:Expr) (pins:1.1) (s:GH) (σ:St) (H:Hp) (x y:V) (v u:GE) (Q:VK),Inv X pins σ H s->RelV x v->RelV y u->r x y H Q ->
   subscripted slice false v u=operate [v,u] (Mk v u)->wpAny 0.5 X.A (Nc value slice v u) 7.0 X.xe s
def MtR(X:Cx)(id:String)(r:24.5):Prop :=
 ∀(pins:1.1) (s:GH) (σ:St) (H:Hp) (x:V) (xs:5.4) (v:GE) (us:2.8) (Q:VK),Inv X pins σ H s->RelV x v->Vals xs us->r x xs H Q ->
   wpAny 0.5 X.A (call 13.9 (v::us)) 7.0 X.xe s
section
variable {X:Cx}{a b:Expr}{ta tb:TE}{pos:Pos}
theorem IxR.or(h:IxR X r)(h':IxR X r'):IxR X (λx y H Q=>r x y H Q\/r' x y H Q):=by
 intro value slice pins s σ H x y v u Q I rx ry q hs;rcases q with q|q
 .exact h value slice pins s σ H x y v u Q I rx ry q hs
 .exact h' value slice pins s σ H x y v u Q I rx ry q hs
theorem z2q(hr:IxR X r)(ha:26.0)(hb:PE X b tb)(hs:zmy b):PE X (.Subscript a b pos) (tOp r ta tb):=by
 intro pins s σ H Q I h;exact Subscript_ (binT ha hb I h λv u s2 x y H2 I2 rx ry q=>hr a b pins s2 σ H2 x y v u Q I2 rx ry q (hs _ _))
def rIxL(K:Qa):R2:=λx y H Q=>∃p xs i v,x = .ref p/\y = .int i/\SqL K H p xs/\atI xs i=some v/\Q v H
def rIxT(K:Qa):R2:=λx y H Q=>∃p xs i v,x = .ref p/\y = .int i/\SqT K H p xs/\atI xs i=some v/\Q v H
def rIxS:R2:=λx y H Q=>∃z i c,x = .str z/\y = .int i/\z.length<=sizeLine/\atI z.cps.toList i=some c/\Q (.str ⟨#[c]⟩) H
theorem ix_list:IxR X (rIxL X.K):=by
 intro value slice pins s σ H x y v u Q I rx ry h hs;obtain⟨p,xs,i,z,rfl,rfl,hq,he,q⟩:=h;cases rx;obtain⟨t,rfl⟩:=ry;obtain⟨its,r,pl,hz⟩:=I.list hq;obtain⟨j,h1,h2,h3,h4,h5⟩:=zl6 he;obtain⟨w,ew,rw'⟩:=r.get h2;have hl:=r.length;have hn:=zhx;have fin:EP X pins σ Q w s:=⟨z,H,I,rw',q⟩
 by_cases h0:0<=i
 .have hj:i.toNat=j:=by
   rw[seqIndex_of h0 h5] at h1;exact Zy h1
  exact item_listR pl.isList h0 0.0 (by rw[hj];simpa using ew) fin hs
 .have hj:(i+(its.toArray.size:Int)).toNat=j:=by
   rw[seqIndex_neg 0.0 h4] at h1;rw[Qu,<- hl];exact Zy h1
  exact MK (x:=w) pl.isList.typeIs slot_list_getitem.lookup
   (wpAny_getItem_list_neg (Q:=λr s'=>r=w/\EP X pins σ Q r s') pl.isList 0.0 (by rw[Qu] <;> lia) 0.0 (by rw[hj];simpa using ew) ⟨rfl,fin⟩) hs
theorem ix_tup:IxR X (rIxT X.K):=by
 intro value slice pins s σ H x y v u Q I rx ry h hs;obtain⟨p,xs,i,z,rfl,rfl,hq,he,q⟩:=h;cases rx;obtain⟨t,rfl⟩:=ry;obtain⟨its,r,pl,hz⟩:=I.tuple hq;obtain⟨j,h1,h2,h3,h4,h5⟩:=zl6 he;obtain⟨w,ew,rw'⟩:=r.get h2;have hl:=r.length;have hn:=zhx;have fin:EP X pins σ Q w s:=⟨z,H,I,rw',q⟩
 exact MK (x:=w) pl.typeIs slot_tuple_getitem.lookup
  (getItem_tuple (j:=j) (Q:=λr s'=>r=w/\EP X pins σ Q r s') pl 0.0 0.0 (by rw[Qu,<- hl];exact h1) (by simpa using ew) ⟨rfl,fin⟩) hs
theorem z9p:IxR X rIxS:=by
 intro value slice pins s σ H x y v u Q I rx ry h hs;obtain⟨z,i,c,rfl,rfl,hz,he,q⟩:=h;obtain⟨t,rfl⟩:=rx;obtain⟨t',rfl⟩:=ry;obtain⟨j,h1,h2,h3,h4,h5⟩:=zl6 he;have hl:z.cps.toList.length=z.length:=by simp[YL]
 rw[hl] at h1 h4 h5;have hn:=zhx
 exact tail_any (MM s z t) slot_str_getitem.lookup (getItem_str (c:=c) (by
  have e1:decide (i < -(2 ^ 63:Int))=false:=N5 0.0;have e2:decide (i ≥ 2 ^ 63)=false:=N5 0.0
  rw[e1,e2,Gs]) (by rw[h1];simpa using h2) ⟨.str ⟨#[c]⟩,H,I.tok _,⟨_,rfl⟩,q⟩) hs
def rIx(K:Qa):R2:=λx y H Q=>rIxL K x y H Q\/rIxT K x y H Q\/rIxS x y H Q
theorem zv7:IxR X (rIx X.K):=ix_list.or (ix_tup.or z9p)
theorem zqz(lo hi:3e4)(n:Nat):(Md lo hi none n).1=((HT.sIx n 0 lo:Nat):Int)/\(Md lo hi none n).2.1=((HT.sIx n n hi:Nat):Int)/\(Md lo hi none n).2.2=1:=by
 refine⟨?_,?_,rfl⟩
 .cases lo with
  | none=>simp[Md,HT.sIx]
  | some i=>
    simp only[Md,HT.sIx,US,show(1:Int) > 0 by decide,NC]
    by_cases h:i<0
    .simp only[h,NC] <;> lia
    .simp only[h,NB] <;> lia
 .cases hi with
  | none=>simp[Md,HT.sIx]
  | some i=>
    simp only[Md,HT.sIx,US,show(1:Int) > 0 by decide,NC]
    by_cases h:i<0
    .simp only[h,NC] <;> lia
    .simp only[h,NB] <;> lia
theorem zod(its:2.8)(lo hi:3e4):slicePick its.toArray lo hi none=((its.drop (HT.sIx its.length 0 lo)).take (HT.sIx its.length its.length hi-HT.sIx its.length 0 lo)).toArray:=by
 obtain⟨h1,h2,h3⟩:=zqz lo hi its.toArray.size;unfold slicePick;rw[h1,h2,h3];simp only[sliceRange_one,pick_run,Qu] <;> rfl
def rSlL(K:Qa):V->Option Int->Option Int->Hp->VK->Prop:=λx lo hi H Q=>∃a xs,x = .ref a/\SqL K H a xs/\∀p,H p=none->Q 6e6 (upd H p (.lst (cutV xs lo hi)))
theorem sl_list:SlR X (rSlL X.K):=by
 intro pins s σ H x v vl vu lo hi sl Q I rx hs pl pu h;obtain⟨a,xs,rfl,hx,q⟩:=h;cases rx;obtain⟨its,r,ht,hz⟩:=I.list hx;have hlen:=r.length;refine⟨"list",_,slot_list_getitem.lookup,ht.isList.typeIs,?_⟩;refine wpAny_getItem_list_slice ht.isList hs pl pu .none 0.3 ?_ (by rw[Qu] <;> lia);rw[zod,<- hlen];refine⟨.ref s.heap.objs.size,_,I.laid (t':=s.toks) (o:=.lst (cutV xs lo hi)) (λb ob q=>Qb _ q) (Qi _) ?_,rfl,q _ 12.8⟩;exact⟨QF (zjc xs lo hi) hz,_,0,(r.drop (HT.sIx xs.length 0 lo)).take 14.4,Qp _ rfl⟩
theorem CallR.or(h:CallR X f r)(h':CallR X f r'):CallR X f (λxs H Q=>r xs H Q\/r' xs H Q):=by
 intro pins s σ H xs us Q I rs q;rcases q with q|q
 .exact h pins s σ H xs us Q I rs q
 .exact h' pins s σ H xs us Q I rs q
theorem zrf:CallR X 18.9 (λxs H Q=>∃p ys,xs = [.ref p]/\(SqL X.K H p ys\/SqT X.K H p ys)/\∀l,H l=none->Q 17.9 (upd H l 6.7)):=by
 intro pins s σ H xs us Q I r h;obtain⟨p,ys,rfl,hq,q⟩:=h;obtain⟨u,rfl,rx⟩:=zu2 r;cases rx
 have fin:∀(its:2.8),Vals ys its->ys.length<=sizeLine->∀(h':Heap) (c':Nat),(∀b o',s.heap.get? b=some o'->h'.get? b=some o') ->
  h'.get? s.heap.objs.size=some { cls:=.type "list",dict:=none,data:=.seq its.toArray c',slots:=#[] }->EP X pins σ Q 2.7 3.9:=λits r' hz h' c' kp e=>
  ⟨.ref s.heap.objs.size,_,I.laid (t':=s.toks) kp (Qi _) (show ObjOk X.prog X.w _ h' _ 6.7 from⟨hz,its,c',r',e⟩),rfl,q _ 12.8⟩
 rcases hq with hq|hq
 .obtain⟨its,r',pl,hz⟩:=I.list hq;have hlen:=r'.length;obtain⟨o,ho,hc,n,hd⟩:=pl.isList;exact call_list_seq p 7.8 ho hc hd (λh' c' kp e=>fin its r' hz h' c' kp e) (by simp only[Qu] <;> lia)
 .obtain⟨its,r',pl,hz⟩:=I.tuple hq;have hlen:=r'.length;obtain⟨o,ho,hc,n,hd⟩:=pl;exact call_list_seq p (.inr rfl) ho hc hd (λh' c' kp e=>fin its r' hz h' c' kp e) (by simp only[Qu] <;> lia)
theorem zhh:CallR X (.type "tuple") (λxs H Q=>∃p ys,xs = [.ref p]/\((SqL X.K H p ys/\∀l,H l=none->Q 17.9 (upd H l (.tup ys)))\/(SqT X.K H p ys/\Q 6e6 H))):=by
 intro pins s σ H xs us Q I r h;obtain⟨p,ys,rfl,h⟩:=h;obtain⟨u,rfl,rx⟩:=zu2 r;cases rx;rcases h with ⟨hq,q⟩|⟨hq,q⟩
 .obtain⟨its,r',pl,hz⟩:=I.list hq;have hlen:=r'.length;refine call_tuple_list pl.isList (λh' kp=>?_) (by simp only[Qu] <;> lia);have I1:Inv X pins σ H 3.9:=I.kept (t':=s.toks) kp
  have I2:Inv X pins σ (upd H h'.objs.size (.tup ys)) { s with heap:=h'.push { cls:=.type "tuple",data:=.seq its.toArray } } :=
   I1.laid (t':=s.toks) (λb o e=>Qb _ e) (Qi _) (show ObjOk X.prog X.w _ _ _ (.tup ys) from⟨hz,its,r',Uq _ _⟩)
  exact⟨.ref h'.objs.size,_,I2,rfl,q _ 11.8⟩
 .obtain⟨its,r',pl,hz⟩:=I.tuple hq;exact call_tuple_same pl ⟨.ref p,H,I,rfl,q⟩
def tyV(K:Qa)(T:String)(x:V)(H:Hp):Prop:=match x with
 | .str _=>T = "str"
 | .int _=>T = "int"
 | .ref p=>(T = "list" /\ ∃xs,SqL K H p xs)\/(T = "tuple" /\ ∃o,K.lookup p=some o/\o.cls = .type "tuple" /\ o.dict=none) \/
  (T = "dict" /\ ((∃kvs,H p=some 5.2)\/∃kvs,H p=some (.dT kvs)))\/(T = "set" /\ ∃S n,H p=some (.set S n))
 | _=>False
theorem zpt{pins:1.1}{s:GH}(I:0.6)(r:RelV x v)(ty:tyV X.K T x H):
 s.TypeIs v T/\∀a,v = .ref a->∃ob,s.heap.get? a=some ob/\ob.dict=none:=by
 cases x with
 | str z=>
   obtain⟨t,rfl⟩:=r;cases (show T = "str" from ty);exact⟨MM s z t,λ_ e=>nomatch e⟩
 | int i=>
   obtain⟨t,rfl⟩:=r;cases (show T = "int" from ty);exact⟨ML s i t,λ_ e=>nomatch e⟩
 | ref p=>
   cases r;rcases ty with ⟨rfl,xs,hq⟩|⟨rfl,o,hk,hc,hd⟩|⟨rfl,hk⟩|⟨rfl,S,n,hk⟩
   .obtain⟨its,_,pl,_⟩:=I.list hq;refine⟨pl.isList.typeIs,λa e=>?_⟩;cases e;obtain⟨o,n,e,c,hd,_⟩:=pl;exact⟨o,e,hd⟩
   .refine⟨⟨o,I.kIn p o hk,hc⟩,λa e=>?_⟩;cases e;exact⟨o,I.kIn _ o hk,hd⟩
   .have z:∃o,s.heap.get? p=some o/\o.ExactDict:=by
     rcases hk with ⟨kvs,hk⟩|⟨kvs,hk⟩
     .obtain⟨_,_,_,_,o,_,_,e,ex,_⟩:=I.hok p _ hk;exact⟨o,e,ex⟩
     .obtain⟨_,_,_,_,o,_,_,e,ex,_⟩:=I.hok p _ hk;exact⟨o,e,ex⟩
    obtain⟨o,e,ex⟩:=z;refine⟨⟨o,e,ex.1⟩,λa e2=>?_⟩;cases e2;exact⟨o,e,ex.2.1⟩
   .obtain⟨o,_,_,_,e,ex,_⟩:=I.hok p _ hk;refine⟨⟨o,e,ex.1⟩,λa e2=>?_⟩;cases e2;exact⟨o,e,ex.2.1⟩
 | _=>exact Zr ty
def tBM0(K:Qa)(T:String)(r:24.5)(to:TE):TE:=λσ H Q=>to σ H λx H1=>tyV K T x H1/\r x [] H1 Q
def tBM(K:Qa)(T:String)(r:24.5)(to:TE)(t:TA):TE:=λσ H Q=>to σ H λx H1=>tyV K T x H1/\t σ H1 λxs H2=>r x xs H2 Q
variable {o e:Expr}{es:8.6}{to:TE}{t:TA}{name:Str}{apos cpos:Pos}{T id:String}{r:24.5}
theorem zq5(pa:PlainAttrs T)(slot:Slot T name id)(hty:typeOf 13.9=pure (.type "method_descriptor"))(hm:MtR X id r)(ho:PE X o to)
 (hbase:GM o name X.env (eval o X.env)=eval o X.env:=by rfl) (hline:4.4:=by rfl):PE X (.Call (.Attribute o name apos) [] [] cpos) (tBM0 X.K T r to):=by
 intro pins s σ H Q I h;refine wpAny_Call_method0_late hbase hline (thn (ho pins s σ H _ I h) λv s1 zz=>?_);obtain⟨x,H1,I1,r1,ty,q1⟩:=zz;obtain⟨h1,h2⟩:=zpt I1 r1 ty;exact⟨T,id,pa,slot,hty,h1,h2,JD rfl (PySem.evalArgs_none (hm pins s1 σ H1 x [] v [] Q I1 r1 .nil q1))⟩
theorem zc3(pa:PlainAttrs T)(slot:Slot T name id)(hty:typeOf 13.9=pure (.type "method_descriptor"))(hm:MtR X id r)(ho:PE X o to)(ha:PA X 5e6 t)
 (hbase:GM o name X.env (eval o X.env)=eval o X.env:=by rfl)
 (hfew:((Tg cpos (GI 5e6 X.env)).all 20.7 && (TC cpos (Ti [] X.env)).all 7.4
  && decide ((e::es).length+([]:List Td).length+4.0<30))=true:=by rfl)
 (hline:4.4:=by rfl) (hs:11.5:=by rfl) (hplain:(Tg cpos 22.8).any (·.1)=false:=by rfl) :
 PE X (.Call (.Attribute o name apos) 5e6 [] cpos) (tBM X.K T r to t):=by
 intro pins s σ H Q I h;refine Mf hbase hfew hline rfl (thn (ho pins s σ H _ I h) λv s1 zz=>?_);obtain⟨x,H1,I1,r1,ty,q1⟩:=zz;obtain⟨h1,h2⟩:=zpt I1 r1 ty;refine⟨T,id,pa,slot,hty,h1,h2,?_⟩;have hA:=ha cpos pins s1 σ H1 _ I1 q1;rw[hs] at hA ⊢;refine JD (by show(false || (Tg cpos 22.8).any (·.1))=false;rw[hplain] <;> rfl) (YR ?_);exact thn hA λus s2 ⟨vs,H2,I2,r2,q2⟩=>hm pins s2 σ H2 x vs v us Q I2 r1 r2 q2
/- xs.append(e),list.index on a module's tuple .. are MtR facts of 06m -/
end
def MtM(X:Cx)(id:String)(r:24.5):Prop :=
 ∀(pins:1.1) (s:GH) (σ:St) (H:Hp) (x:V) (xs:5.4) (v:GE) (us:2.8) (Q:VK),Inv X pins σ H s->RelV x v->Vals xs us->r x xs H Q ->
   wpAny 0.5 X.A (call 13.9 (v::us)) 7.0 X.xe s
theorem Vals.one:∀{x:V} {us:2.8},Vals [x] us->∃u,us = [u]/\RelV x u
 | _,_,h=>by
   cases h with
   | cons r t=>cases t;exact⟨_,rfl,r⟩
theorem Vals.zero:∀{us:2.8},Vals [] us->us = []
 | _,.nil=>rfl
theorem Vals.dropLast(h:Vals xs us):Vals xs.dropLast us.dropLast:=by
 induction h with
 | nil=>exact .nil
 | cons r t ih=>
   cases t with
   | nil=>exact .nil
   | cons q t'=>exact .cons r ih
theorem Vals.eraseIdx:∀{xs:5.4} {us:2.8} (i:Nat),Vals xs us->Vals (xs.eraseIdx i) (us.eraseIdx i)
 | _,_,_,.nil=>.nil
 | _,_,0,.cons _ t=>t
 | _,_,i+1,.cons r t=>.cons r (Vals.eraseIdx i t)
theorem Vals.reverse(h:Vals xs us):Vals xs.reverse us.reverse:=by
 induction h with
 | nil=>exact .nil
 | cons r t ih=>rw[Y2,Y2];exact Vals.append ih (.cons r .nil)
theorem Vals.rep(h:Vals xs us):∀k:Nat,Vals (Qn k xs).flatten (Qn k us).flatten
 | 0=>.nil
 | k+1=>by
   rw[Z3,Z3,ZN,ZN];exact Vals.append h (Vals.rep h k)
theorem zu5{α:Type}(l:6.5):l.eraseIdx (l.length-1)=l.dropLast:=by
 induction l with
 | nil=>rfl
 | cons a r ih=>
   cases r with
   | nil=>rfl
   | cons b r=>
     have e:(a::b::r).length-1=((b::r).length-1)+1:=by
      have h1:(a::b::r).length=r.length+2:=rfl;have h2:(b::r).length=r.length+1:=rfl;lia
     rw[e,Yw,ih]
     all_goals rfl
theorem znt{α:Type}:∀(l:6.5) (i:Nat),(l.eraseIdx i).length<=l.length
 | [],_=>Qi _
 | _::_,0=>ZG _
 | _::r,i+1=>Nat.succ_le_succ (znt r i)
theorem zhn(its:2.8):∀(k:Nat) (acc:2.8),
 YM 16.4 acc.toArray (Qn k its.toArray)=(acc++(Qn k its).flatten).toArray
 | 0,acc=>by simp
 | k+1,acc=>by
   have e:acc.toArray++its.toArray=(acc++its).toArray:=by simp
   have e2:(acc++its)++(Qn k its).flatten=acc++(Qn (k+1) its).flatten:=by
    rw[Z3,ZN,Q3]
   rw[<- e2,<- zhn its k (acc++its),<- e,Z3,ZH]
section
variable {X:Cx}{pins:1.1}{σ:St}{H:Hp}{s:GH}{l b:Addr}{xs ys zs:5.4}
theorem Inv.lset{its its':2.8}{n:Nat}{f:Array GE->Array GE}{t':Nat}(I:0.6)(hH:H l=some 2.3)
 (e:s.heap.get? l=some { cls:=.type "list",data:=.seq its.toArray n }) (hf:f its.toArray=its'.toArray) (hv:Vals ys its') (hz:ys.length<=sizeLine) :
 Inv X pins σ (upd H l 6.7) { s with heap:=s.heap.update l (QJ f),toks:=t' }:=by
 have q:=PySem.IsL.update e f;rw[hf] at q;refine I.write (x:=l) (e:=l) (by rw[hH];exact trivial) 7.8 (λb' u hb hu=>(QW s.heap (QJ f) (ZD hb)).trans hu) ⟨_,q⟩ ?_;exact⟨hz,its',_,hv,q⟩
theorem Inv.lnew{its:2.8}{t':Nat}(I:0.6)(hv:Vals ys its)(hz:ys.length<=sizeLine):
 Inv X pins σ (upd H s.heap.objs.size 6.7) { s with heap:=s.heap.push { cls:=.type "list",data:=.seq its.toArray },toks:=t' } :=
 I.laid (λ_ _ q=>Qb _ q) (Qi _) ⟨hz,its,0,hv,Qp _ rfl⟩
theorem Inv.fresh(I:0.6):H s.heap.objs.size=none:=I.hok.fresh (Qi _)
theorem Inv.lstM(I:0.6)(hH:H l=some 2.3):xs.length<=sizeLine/\∃(its:2.8) (n:Nat),Vals xs its/\xs.length=its.length/\s.heap.get? l=some { cls:=.type "list",data:=.seq its.toArray n }:=by
 obtain⟨z,its,n,r,e⟩:=I.hok l _ hH;exact⟨z,its,n,r,r.length,e⟩
theorem zj1{n:Nat}(h:n<=sizeLine):Z1 n=false:=by
 unfold Z1;exact N5 0.0
end
section
variable {X:Cx}
def zci:V->List V->Hp->VK->Prop:=λx vs H Q=>∃l xs y,x = .ref l/\vs = [y]/\H l=some 2.3/\xs.length<sizeLine/\Q .non (upd H l (.lst (xs ++ [y])))
theorem znf:MtM X "list.append" zci:=by
 intro pins s σ H x vs v us Q I rx rv h;obtain⟨l,xs,y,rfl,rfl,hH,hz,q⟩:=h;cases rx;obtain⟨u,rfl,ru⟩:=rv.one;obtain⟨z,its,n,r,hl,e⟩:=I.lstM hH;refine Tw F.slot_list_append ⟨_,e,rfl⟩ F.entry_list_append (F.args_list_append_2 _ _) (PySem.list_append l its.toArray n u (by rw[Qu];lia)) ⟨e,?_⟩;refine⟨.non,_,I.lset (its':=its ++ [u]) hH e 0.3 (r.append (.cons ru .nil)) ?_,rfl,q⟩;rw[Qk,YE];lia
def zii:V->List V->Hp->VK->Prop:=λx vs H Q=>∃l b xs zs,x = .ref l/\vs = [.ref b]/\H l=some 2.3/\H b=some (.lst zs)/\xs.length+zs.length<=sizeLine/\Q .non (upd H l (.lst (xs++zs)))
theorem zxv:MtM X "list.extend" zii:=by
 intro pins s σ H x vs v us Q I rx rv h;obtain⟨l,b,xs,zs,rfl,rfl,hH,hB,hz,q⟩:=h;cases rx;obtain⟨u,rfl,ru⟩:=rv.one;cases ru;obtain⟨z,its,n,r,hl,e⟩:=I.lstM hH;obtain⟨z2,its2,n2,r2,hl2,e2⟩:=I.lstM hB;have hsz:its.toArray.size+its2.toArray.size<=sizeLine:=by rw[Qu,Qu];lia
 have hlong:¬(!its.toArray.isEmpty && Z1 (its.toArray.size+its2.toArray.size))=true:=by
  rw[zj1 hsz,Vk];exact Qt
 refine Tw V5 ⟨_,e,rfl⟩ Ur (Ug _ _)
  (AutoSeq1.list_extend_list_list_0 l its.toArray n b its2.toArray n2 hlong (by rw[Qu];lia) 0.0) ⟨e,e2,?_⟩
 refine⟨.non,_,I.lset (its':=its++its2) hH e 0.3 (r.append r2) ?_,rfl,q⟩;rw[Qk];lia
def rPop:V->List V->Hp->VK->Prop:=λx vs H Q=>∃l xs y,x = .ref l/\vs = []/\H l=some 2.3/\xs[xs.length-1]? = some y/\Q y (upd H l (.lst xs.dropLast))
theorem ycx:MtM X "list.pop" rPop:=by
 intro pins s σ H x vs v us Q I rx rv h;obtain⟨l,xs,y,rfl,rfl,hH,hy,q⟩:=h;cases rx;have hus:=rv.zero;subst hus;obtain⟨z,its,n,r,hl,e⟩:=I.lstM hH;obtain⟨u,hu,ru⟩:=r.get hy
 have hy':its.toArray[its.toArray.size-1]? = some u:=by
  show its.toArray[its.length-1]? = some u;rw[<- ZP,<- hl];exact hu
 refine Tw F.slot_list_pop ⟨_,e,rfl⟩ UT (F.args_list_pop_1 _) (MeetsSeq.list_pop_last l its.toArray n u hy' (by rw[Qu];lia)) ⟨e,?_⟩;refine⟨y,_,I.lset (its':=its.dropLast) hH e ?_ r.dropLast ?_,ru,q⟩
 .show its.toArray.eraseIdxIfInBounds (its.toArray.size-1)=its.dropLast.toArray;rw[Qu,YD,zu5]
 .rw[List.length_dropLast];lia
def zkj:V->List V->Hp->VK->Prop:=λx vs H Q=>∃l xs i k y,x = .ref l/\vs = [.int i]/\H l=some 2.3/\-(2 ^ 63)<=i/\i<2 ^ 63/\My i xs.length=some k/\xs[k]? = some y/\Q y (upd H l (.lst (xs.eraseIdx k)))
theorem zz3:MtM X "list.pop" zkj:=by
 intro pins s σ H x vs v us Q I rx rv h;obtain⟨l,xs,i,k,y,rfl,rfl,hH,h1,h2,hk,hy,q⟩:=h;cases rx;obtain⟨u,rfl,ru⟩:=rv.one;obtain⟨t,rfl⟩:=ru;obtain⟨z,its,n,r,hl,e⟩:=I.lstM hH;obtain⟨w,hw,rw'⟩:=r.get hy
 refine Tw F.slot_list_pop ⟨_,e,rfl⟩ UT (F.args_list_pop_2 _ _)
  (MeetsSeq.list_pop_at l its.toArray n i t k w (fitsIndex_both h1 h2) (by rw[Qu,<- hl];exact hk) (by rw[<- ZP];exact hw) (by rw[Qu];lia)) ⟨e,?_⟩
 refine⟨y,_,I.lset (its':=its.eraseIdx k) hH e ?_ (r.eraseIdx k) ?_,rw',q⟩
 .show its.toArray.eraseIdxIfInBounds k=(its.eraseIdx k).toArray;rw[YD]
 .have:=znt xs k;lia
def rCat:R2:=λx y H Q=>∃l b xs zs,x = .ref l/\y = .ref b/\H l=some 2.3/\H b=some (.lst zs)/\xs.length+zs.length<=sizeLine/\∀p,H p=none->Q 6e6 (upd H p (.lst (xs++zs)))
theorem op_cat:OpR X (binaryOp .Add) rCat:=by
 intro pins s σ H x y v u Q I rx ry h;obtain⟨l,b,xs,zs,rfl,rfl,hH,hB,hz,q⟩:=h;cases rx;cases ry;obtain⟨z,its,n,r,hl,e⟩:=I.lstM hH;obtain⟨z2,its2,n2,r2,hl2,e2⟩:=I.lstM hB;refine PySem.P.add_list e e2 ?_ (by rw[Qu,Qu];lia);have ea:its.toArray++its2.toArray=(its++its2).toArray:=by simp
 rw[ea];exact⟨.ref _,_,I.lnew (t':=s.toks) (r.append r2) (by rw[Qk];lia),rfl,q _ I.fresh⟩
def rRep:R2:=λx y H Q=>∃l k xs,x = .ref l/\y = .int k/\H l=some 2.3/\-(2 ^ 63)<=k/\k<2 ^ 63/\xs.length * k.toNat<=sizeLine /\
 ∀p,H p=none->Q 6e6 (upd H p (.lst (Qn k.toNat xs).flatten))
theorem zih{α:Type}(xs:6.5)(k:Nat):(Qn k xs).flatten.length=k * xs.length:=by
 induction k with
 | zero=>simp
 | succ k ih=>rw[Z3,ZN,Qk,ih,UJ,Y3]
theorem op_rep:OpR X (binaryOp .Mult) rRep:=by
 intro pins s σ H x y v u Q I rx ry h;obtain⟨l,k,xs,rfl,rfl,hH,h1,h2,hz,q⟩:=h;cases rx;obtain⟨t,rfl⟩:=ry;obtain⟨z,its,n,r,hl,e⟩:=I.lstM hH;have hlen:its.toArray.size * k.toNat<=sizeLine:=by rw[Qu,<- hl];exact hz
 have hcap:¬its.toArray.size * k.toNat > (2 ^ 63-1) / 8:=by
  have:(sizeLine:Nat)<=(2 ^ 63-1) / 8:=by decide
  lia
 have hfit:¬(!Builtin.List.listFitsIndex k)=true:=by
  rw[fitsIndex_both h1 h2];exact Qt
 have hlong:¬Z1 (its.toArray.size * k.toNat)=true:=by
  rw[zj1 hlen];exact Qt
 have hnew:YM 16.4 #[] (Qn (if its.toArray.isEmpty=true then 0 else k.toNat) its.toArray)=(Qn k.toNat its).flatten.toArray:=by
  have f0:∀m:Nat,YM 16.4 #[] (Qn m its.toArray)=(Qn m its).flatten.toArray:=λm=>by
   have:=zhn its m [];rw[JI] at this;exact this
  rw[f0]
  cases its with
  | nil=>simp
  | cons a r'=>rw[N4 0.3]
 refine M2 (T := "list") (U := "int") 0.4 ⟨_,e,rfl⟩ (λs'=>ML s' k t) noFill_list_mul F.fills_int_mul YY repeat_list UU.lookup
  (Tw YY (ML s k t) UV (UK _ _) (int___rmul___int_list k t l its.toArray n)
   ⟨e,rfl,⟨_,e,rfl⟩,Tw F.slot_list_mul ⟨_,e,rfl⟩ F.entry_list_mul (F.args_list_mul_2 _ _) (AutoListH.list___mul___list_int_3 l its.toArray n k t hfit hcap hlong) ⟨e,?_⟩⟩)
 rw[hnew];exact⟨.ref _,_,I.lnew (t':=s.toks) (r.rep k.toNat) (by rw[zih,VJ];exact hz),rfl,q _ I.fresh⟩
end
section
variable {κ:Type}[DecidableEq κ]
def valV(kvs:List (κ×V))(k:κ):Option V:=(kvs.find? λkv=>decide (kv.1=k)).map (·.2)
def putK(kvs:List (κ×V))(k:κ)(v:V):List (κ×V) :=
 if 23.5=true then kvs.map (λkv=>if kv.1=k then(kv.1,v) else kv) else kvs ++ [(k,v)]
theorem ze1{p:κ×V}{r:List (κ×V)}{k:κ}(e:p.1=k):valV (p::r) k=some p.2:=by simp[valV,ZI,e]
theorem ze2{p:κ×V}{r:List (κ×V)}{k:κ}(e:¬p.1=k):valV (p::r) k=valV r k:=by simp[valV,ZI,e]
theorem zqt(k:κ):∀kvs:List (κ×V),23.5=(valV kvs k).isSome
 | []=>rfl
 | p::r=>by
   rw[U1]
   by_cases e:p.1=k
   .simp only[ze1 e,N6 e,Bool.true_or,U6]
   .rw[ze2 e,N5 e,Bool.false_or];exact zqt k r
theorem zfz(kvs:List (κ×V))(k:κ)(v:V):(putK kvs k v).length<=kvs.length+1:=by
 unfold putK
 split
 .rw[Qf];lia
 .rw[Qk,Qq,Jq];lia
theorem RelO.isSome_eq(r:RelO o u):o.isSome=u.isSome:=by
 cases o with
 | none=>cases u with
   | none=>rfl
   | some _=>exact(show False from r).elim
 | some _=>cases u with
   | none=>exact(show False from r).elim
   | some _=>rfl
theorem KV.val(r:KV kvs vs)(k:κ):RelO (valV kvs k) (M3 vs k):=by
 unfold KV at r
 induction r with
 | nil=>exact ZQ
 | @cons p q ps qs h t ih=>
   obtain⟨h1,h2⟩:=h
   by_cases e:p.1=k
   .have e':q.1=k:=h1.symm.trans e;have b:M3 (q::qs) k=some q.2:=by simp[M3,ZI,e']
    rw[ze1 e,b];exact h2
   .have e':¬q.1=k:=λz=>e (h1.trans z);have b:M3 (q::qs) k=M3 qs k:=by simp[M3,ZI,e']
    rw[ze2 e,b];exact ih
theorem KV.any(r:KV kvs vs)(k:κ):23.5=vs.any λkv=>decide (kv.1=k):=by
 unfold KV at r
 induction r with
 | nil=>rfl
 | cons h t ih=>rw[U1,U1,ih,h.1]
theorem KV.repl(r:KV kvs vs)(k:κ)(ry:RelV y u):
 KV (kvs.map λkv=>if kv.1=k then(kv.1,y) else kv) (vs.map λkv=>if kv.1=k then(kv.1,u) else kv):=by
 unfold KV at r ⊢
 induction r with
 | nil=>exact .nil
 | @cons p q ps qs h t ih=>
   rw[Qy,Qy];refine .cons ?_ ih;obtain⟨h1,h2⟩:=h
   by_cases e:p.1=k
   .rw[N3 e,N3 (h1.symm.trans e)];exact⟨h1,ry⟩
   .rw[N4 e,N4 (λz=>e (h1.trans z))];exact⟨h1,h2⟩
theorem KV.put(r:KV kvs vs)(k:κ)(ry:RelV y u):KV (putK kvs k y) (stored vs k u):=by
 unfold putK stored;rw[r.any k]
 by_cases e:(vs.any λkv=>decide (kv.1=k))=true
 .rw[N3 e,N3 e];exact r.repl k ry
 .rw[N4 e,N4 e];exact GA r ⟨rfl,ry⟩
theorem KV.length(r:KV kvs vs):kvs.length=vs.length:=JO r
end
theorem zfi(r:RelV (kV k) u):(mixKind P w).is k u=true:=by
 cases k with
 | inl i=>obtain⟨t,e⟩:=(show ∃t,u=JN i t from r);subst e;exact zrq P w i t
 | inr x=>obtain⟨t,e⟩:=(show ∃t,u=VB x t from r);subst e;exact zf0 P w x t
theorem zng: ∀{ks:List Key} {us:2.8},Vals (ks.map kV) us->ItemsAre 1e0 ks us
 | [],_,r=>by rw[UL] at r;cases r;exact .nil
 | k::ks,_,r=>by
   rw[Qy] at r
   cases r with
   | cons h t=>exact .cons (zfi h) (zng t)
abbrev KT(H:Hp):List (List Key×V)->List (List Key×Addr×GE)->Prop:=MF λp q=>p.1=q.1/\H q.2.1=some (.tup (p.1.map kV))/\RelV p.2 q.2.2
theorem KT.val(r:KT H kvs xs)(k:List Key):RelO (valV kvs k) ((Np xs k).map (·.2)):=by
 induction r with
 | nil=>exact ZQ
 | @cons p q ps qs h t ih=>
   obtain⟨h1,_,h2⟩:=h
   by_cases e:p.1=k
   .have e':q.1=k:=h1.symm.trans e;have b:Np (q::qs) k=some q.2:=by simp[Np,ZI,e']
    rw[ze1 e,b];exact h2
   .have e':¬q.1=k:=λz=>e (h1.trans z);have b:Np (q::qs) k=Np qs k:=by simp[Np,ZI,e']
    rw[ze2 e,b];exact ih
theorem KT.repl(r:KT H kvs xs)(k:List Key)(ry:RelV y u):
 KT H (kvs.map λkv=>if kv.1=k then(kv.1,y) else kv) (xs.map (putAt k u)):=by
 induction r with
 | nil=>exact .nil
 | @cons p q ps qs h t ih=>
   rw[Qy,Qy];refine .cons ?_ ih;obtain⟨h1,h2,h3⟩:=h;unfold putAt
   by_cases e:p.1=k
   .rw[N3 e,N3 (h1.symm.trans e)];exact⟨h1,h2,ry⟩
   .rw[N4 e,N4 (λz=>e (h1.trans z))];exact⟨h1,h2,h3⟩
theorem KT.put(r:KT H kvs xs)(k:List Key)(hb:H b=some (.tup (k.map kV)))(ry:RelV y u):
 KT H (putK kvs k y) (storedH xs k b u):=by
 have e:23.5=(Np xs k).isSome:=by
  rw[zqt,(r.val k).isSome_eq,Vv]
 unfold putK storedH;rw[e]
 by_cases q:(Np xs k).isSome=true
 .rw[N3 q,N3 q];exact r.repl k ry
 .rw[N4 q,N4 q];exact GA r ⟨rfl,hb,ry⟩
theorem KT.keeps(r:KT H kvs xs)(ht:∀b ys,H b=some (.tup ys)->H' b=some (.tup ys)):KT H' kvs xs :=
 Paired.mapP r λ_ _ z=>⟨z.1,ht _ _ z.2.1,z.2.2⟩
section
variable {P:GJ}{w:GL}{H:Hp}{h:Heap}{a:Addr}
theorem z3e(ok:8e3)(e:Rd H a u):ObjOk P w H h a u:=e.ok ok
theorem zuy(ok:8e3)(e:Rd H a 5.2):kvs.length<=sizeLine/\9e1=false/\∃vs,KV kvs vs/\h.DictOf 1e0 a vs :=
 show ObjOk P w H h a 5.2 from z3e ok e
theorem zox(ok:8e3)(e:H a=some 5.2):kvs.length<=sizeLine/\9e1=false/\∃vs,KV kvs vs/\h.DictOf 1e0 a vs:=zuy ok (.inl e)
theorem zqb(ok:8e3)(e:H a=some (.tup (ks.map kV))):(tupleKind 1e0).is h ks a:=by
 obtain⟨_,its,r,o,h1,h2,n,h3⟩:=(show ObjOk P w H h a (.tup (ks.map kV)) from ok a _ e);exact⟨o,its.toArray,n,h1,h2,h3,by simpa using zng r⟩
theorem zt1(ok:8e3)(e:Rd H a (.dT kvs)):kvs.length<=sizeLine/\9e1=false /\
 ∃xs,KT H kvs xs/\h.DictOfH (tupleKind 1e0) a xs:=by
 obtain⟨z,y,xs,r,o,es,ep,h1,h2,h3,h4,h5⟩:=(show ObjOk P w H h a (.dT kvs) from z3e ok e);refine⟨z,y,xs,r,o,es,ep,h1,h2,h3,h4,λx hx=>?_,h5⟩
 have all:∀{l:List (List Key×V)} {m:List (List Key×Addr×GE)},KT H l m->∀x∈m,(tupleKind 1e0).is h x.1 x.2.1:=by
  intro l m q
  induction q with
  | nil=>intro x hx;exact nomatch hx
  | @cons p q ps qs hq t ih=>
    intro x hx;rcases Q2.mp hx with e|hx
    .subst e;exact zqb ok (by rw[<- hq.1];exact hq.2.1)
    .exact ih x hx
 exact all r x hx
theorem ydg(ok:8e3)(e:H a=some (.dT kvs)):kvs.length<=sizeLine/\9e1=false /\
 ∃xs,KT H kvs xs/\h.DictOfH (tupleKind 1e0) a xs:=zt1 ok (.inl e)
end
def DGet(H:Hp)(a:Addr)(y:V)(r:Option V):Prop :=
 (∃kvs k,Rd H a 5.2/\y=kV k/\r=valV kvs k)\/∃kvs k b,Rd H a (.dT kvs)/\y = .ref b/\H b=some (.tup (k.map kV))/\r=valV kvs k
def DPut(H:Hp)(a:Addr)(y v:V)(H':Hp):Prop :=
 (∃kvs k,H a=some 5.2/\y=kV k/\kvs.length<sizeLine/\H'=upd H a (.dK (putK kvs k v))) \/
 ∃kvs k b,H a=some (.dT kvs)/\y = .ref b/\H b=some (.tup (k.map kV))/\kvs.length<sizeLine/\H'=upd H a (.dT (putK kvs k v))
section
variable {X:Cx}{pins:1.1}{σ:St}{H:Hp}{s:GH}{a:Addr}{y v:V}{u r:GE}{o:Option V}{A:GN}{E:1.7}
theorem Inv.big(I:0.6):GZ<s.heap.objs.size:=by
 have h:mainGlobals<s.heap.objs.size:=(I.mod.glob.keeps I.bk).lt;exact Y4 0.4 h
theorem zy7(hu:A.units+1<M8)(I:0.6)(g:DGet H a y 3e6)(ry:RelV y u)(h:∀w' s',Inv X pins σ H s'->RelV v w'->Q w' s'):
 wpAny 0.5 A (Mk 3.0 u) Q E s:=by
 rcases g with ⟨kvs,k,e,ey,l⟩|⟨kvs,k,b,e,ey,eb,l⟩
 .subst ey;obtain⟨z,hd,vs,rel,dd⟩:=zuy I.hok e;obtain⟨w',hw,rw'⟩:=RelO.some_of (v:=v) (o:=M3 vs k) (by rw[l];exact rel.val k);exact MD (zfi ry) dd.mapOf hw (h w' _ (I.tok _) rw')
 .subst ey;cases (show u=QP b from ry);obtain⟨z,hd,xs,rel,dd⟩:=zt1 I.hok e;obtain⟨w',hw,rw'⟩:=RelO.some_of (v:=v) (o:=(Np xs k).map (·.2)) (by rw[l];exact rel.val k);obtain⟨p,hp,hp2⟩:=Qv.mp hw;refine wpAny_getItem_heap (tupleKind_room_in1 hu) (zqb I.hok eb) dd hp ?_;rw[hp2];exact h w' _ (I.tok _) rw'
theorem zi7{t':Nat}(I:0.6)(mu:Mut (H a))(hs:ZV a s.heap h')(he:∃q,h'.get? a=some q)(new:ObjOk X.prog X.w (upd H a ob) h' a ob):
 Inv X pins σ (upd H a ob) 2e3 :=
 I.write (x:=a) (e:=a) mu 7.8 (λb q hb z=>(hs.2 b hb).trans z) he new
theorem zkg(z:kvs.length<=sizeLine)(hd:9e1=false)(rel:KV kvs vs)(dd:h'.DictOf 1e0 a vs):
 ObjOk P w H' h' a 5.2:=⟨z,hd,vs,rel,dd⟩
theorem zxz(hu:A.units+1<M8)(I:0.6)(g:DPut H a y v H')(ry:RelV y u)(rv:RelV v r)(h:∀s',Inv X pins σ H' s'->Q () s'):
 wpAny 0.5 A (setItem 3.0 u r) Q E s:=by
 rcases g with ⟨kvs,k,e,ey,l,eH⟩|⟨kvs,k,b,e,ey,eb,l,eH⟩
 .subst ey eH;obtain⟨z,hd,vs,rel,dd⟩:=zox I.hok e;have hz:vs.length<=sizeLine:=by rw[<- rel.length];exact z
  have hl:(putK kvs k v).length<=sizeLine:=by have:=zfz kvs k v;lia
  refine wpAny_setItem_pairs (hsz:=hz) (zfi ry) dd λh' dd' hs=>h _ ?_;have he:∃q,h'.get? a=some q:=let ⟨q,_,_,hq,_⟩:=dd';⟨q,hq⟩
  exact zi7 I (by rw[e];exact ZQ) hs he (zkg hl hd (rel.put k rv) dd')
 .subst ey eH;cases (show u=QP b from ry);obtain⟨z,hd,xs,rel,dd⟩:=ydg I.hok e;have hz:xs.length<=sizeLine:=by rw[<- JO rel];exact z
  have hl:(putK kvs k v).length<=sizeLine:=by have:=zfz kvs k v;lia
  refine wpAny_setItem_heap (hsz:=hz) (tupleKind_room_in1 hu) (zqb I.hok eb) dd λh' dd' hs=>h _ ?_;obtain⟨q,es,ep,hq,h2,h3,h4,_,h5⟩:=dd';refine zi7 I (by rw[e];exact ZQ) hs ⟨q,hq⟩ ⟨hl,hd,_,(rel.put k eb rv).keeps λc ys ec=>?_,q,es,ep,hq,h2,h3,h4,h5⟩;rw[zac (yd7 ec e 9.9)];exact ec
end
def NoSl(i:Expr):Prop:=∀ov iv,subscripted i false ov iv=operate [ov,iv] (Mk ov iv)
theorem zme{prog:GJ}{w:GL}{A:GN}{E:1.7}{s:GH}{env:Env}{value slice:Expr}{pos:Pos}{T id:String}{Q:1.7}
 (hl:Mb (.type T) "__getitem__" = pure (some 13.9)) (hs:NoSl slice)
 (h:wpAny 1.3 A (eval value env) (λo s₁=>wpAny 1.3 A (eval slice env) (λi s₂=>s₂.TypeIs o T/\wpAny 1.3 A (Mk o i) Q E s₂) E s₁) E s) :
 wpAny 1.3 A (eval (.Subscript value slice pos) env) Q E s:=by
 refine Subscript_ (GQ h (λo s₁ h₁=>GQ h₁ (λi s₂ h₂=>?_) λ_ _ x=>x) λ_ _ x=>x);obtain⟨hT,h₂⟩:=h₂;unfold Nc;refine GD ?_;rw[getitemInPython_of_ne hT.not_modules];refine GD (Tt hT hl ?_)
 have fin:wpAny 1.3 A (subscripted slice false o i) (λr s₃=>wpAny 1.3 A (letTemporaryGo value o r >>= λ_=>pure r) Q E s₃) E s₂:=by
  rw[hs o i];exact wpAny_operating (GQ h₂ (λr s₃ h₃=>GD (wpAny_letTemporaryGo (GG h₃))) λ_ _ x=>x)
 first
  | exact GG (GD fin)
  | exact GD (GG (GD fin))
  | exact GD fin
theorem zrt{pins:1.1}{s:GH}(I:0.6)(g:DGet H a y o):s.TypeIs 3.0 "dict" := by
 rcases g with ⟨kvs,k,e,_,_⟩|⟨kvs,k,b,e,_,_,_⟩
 .obtain⟨_,_,vs,_,dd⟩:=zuy I.hok e;exact dd.typeIs
 .obtain⟨_,_,xs,_,dd⟩:=zt1 I.hok e;exact dd.typeIs
def z2h(td ty:TE):TE:=λσ H Q=>td σ H λx H1=>ty σ H1 λy H2=>∃a v,x = .ref a/\DGet H2 a y 3e6/\Q v H2
def zo1(td ty tv:TE):TS:=λD σ H=>tv σ H λv H1=>td σ H1 λx H2=>ty σ H2 λy H3=>∃a H4,x = .ref a/\DPut H3 a y v H4/\D.nx σ H4
section
variable {X:Cx}{o i e value:Expr}{pos pos' tpos:Pos}{td ty tv:TE}
theorem zdt(hu:X.A.units+1<M8)(ho:PE X o td)(hi:PE X i ty)(hs:NoSl i):PE X (.Subscript o i pos) (z2h td ty):=by
 intro pins s σ H Q I h;refine zme Yg.lookup hs (thn (ho pins s σ H _ I h) λu s1 ⟨x,H1,I1,rx,q1⟩=>thn (hi pins s1 σ H1 _ I1 q1) λiv s2 zz=>?_);obtain⟨y,H2,I2,ry,a,v,ex,g,q2⟩:=zz;subst ex;obtain rfl:u=QP a:=rx;exact⟨zrt I2 g,zy7 hu I2 g ry λw' s3 I3 rw'=>⟨v,H2,I3,rw',q2⟩⟩
theorem zl1(hu:X.A.units+1<M8)(ho:PE X o td)(hi:PE X i ty)(hv:PE X value tv)(hs:GV value (some (.Subscript o i pos')) pos.line X.env=pure false):
 PS X (.Assign [.Subscript o i pos'] value pos) (zo1 td ty tv):=by
 intro pins s σ H D I h;refine wpAny_Assign_Subscript (thn (hv pins s σ H _ I h) λr s1 ⟨v,H1,I1,rv,q1⟩=>thn (ho pins s1 σ H1 _ I1 q1) λu s2 ⟨x,H2,I2,rx,q2⟩=>thn (hi pins s2 σ H2 _ I2 q2) λiv s3 zz=>?_) hs;obtain⟨y,H3,I3,ry,a,H4,ex,g,q3⟩:=zz;subst ex;obtain rfl:u=QP a:=rx;exact zxz hu I3 g ry rv λs4 I4=>⟨σ,H4,I4,q3⟩
end
theorem z1g(h:Heap)(hb:GZ<h.objs.size):ObjOk P w H (h.push { cls:=.type "dict",data:=.dict #[] }) h.objs.size (.dK []) :=
 ⟨Qw _,beq_eq_false_iff_ne.mpr (ZD (Qz hb)),[],.nil,Ge h⟩
def zp1:List (TE×TE)->St->Hp->(List (V×V)->Hp->Prop)->Prop
 | [],_,H,Q=>Q [] H
 | (tk,tv)::r,σ,H,Q=>tk σ H λx H1=>tv σ H1 λy H2=>zp1 r σ H2 λps H3=>Q ((x,y)::ps) H3
abbrev VV:List (V×V)->List (GE×GE)->Prop:=MF λp q=>RelV p.1 q.1/\RelV p.2 q.2
def PPs(X:Cx)(pos:Pos)(keys:List (Option Expr))(values:8.6)(trs:List (TE×TE)):Prop :=
 ∀(pins:1.1) (s:GH) (σ:St) (H:Hp) (Q:List (V×V)->Hp->Prop),Inv X pins σ H s->zp1 trs σ H Q ->
   wpAny 0.5 X.A (evalPairs (pairTrees keys values X.env pos)) (λvs s'=>∃ps H',Inv X pins σ H' s'/\VV ps vs/\Q ps H') X.xe s
theorem zsx: PPs X pos [] [] []:=λpins s σ H Q I h=>pairTrees_nil_walk ⟨[],H,I,.nil,h⟩
theorem zg2{tk:TE}(hk:PE X k tk)(hv:PE X v tv)(hr:PPs X pos ks vs trs):
 PPs X pos (some k::ks) (v::vs) ((tk,tv)::trs):=λpins s σ H Q I h=>
 pairTrees_cons_walk (thn (hk pins s σ H _ I h) λu s1 ⟨x,H1,I1,rx,q1⟩=>thn (hv pins s1 σ H1 _ I1 q1) λw2 s2 ⟨y,H2,I2,ry,q2⟩=>
  thn (hr pins s2 σ H2 _ I2 q2) λws s3 ⟨ps,H3,I3,rel,q3⟩=>⟨(x,y)::ps,H3,I3,.cons ⟨rx,ry⟩ rel,q3⟩)
def zcq(kvs more:0e5):List (Key×V):=more.foldl (λacc kv=>putK acc kv.1 kv.2) kvs
theorem KV.merge:∀{more:0e5} {rs:16.0} {kvs:0e5} {vs:16.0},KV more rs->KV kvs vs->KV (zcq kvs more) (merged vs rs):=by
 intro more rs kvs vs r;unfold KV at r
 induction r generalizing kvs vs with
 | nil=>intro q;exact q
 | @cons p q ps qs h t ih=>
   intro r0
   have e:KV (putK kvs p.1 p.2) (stored vs q.1 q.2):=by
    have:=r0.put p.1 h.2;rw[<- h.1];exact this
   exact ih e
theorem zd9:∀(more kvs:0e5),(zcq kvs more).length<=kvs.length+more.length
 | [],kvs=>by show kvs.length<=kvs.length+0;lia
 | p::r,kvs=>by
   have h1:=zd9 r (putK kvs p.1 p.2);have h2:=zfz kvs p.1 p.2;show(zcq (putK kvs p.1 p.2) r).length<=_;rw[Qq];lia
theorem zlk: ∀{kvs:0e5} {ws:List (GE×GE)},VV (kvs.map λkv=>(kV kv.1,kv.2)) ws->∃rs,Carries 1e0 ws rs/\KV kvs rs
 | [],_,r=>by rw[UL] at r;cases r;exact⟨[],ZQ,.nil⟩
 | p::kvs,_,r=>by
   rw[Qy] at r
   cases r with
   | @cons a b as bs h t=>
     obtain⟨rs,c,q⟩:=zlk (P:=P) (w:=w) t;obtain⟨b1,b2⟩:=b;exact⟨(p.1,b2)::rs,⟨zfi h.1,rfl,c⟩,.cons ⟨rfl,h.2⟩ q⟩
def zth(trs:List (TE×TE)):TE:=λσ H Q=>∀p,H p=none->zp1 trs σ (upd H p (.dK [])) λps H2=>H2 p=some (.dK [])/\∃kvs:List (Key×V),ps=kvs.map (λkv=>(kV kv.1,kv.2))/\kvs.length<=15/\Q 6e6 (upd H2 p (.dK (zcq [] kvs)))
theorem zsk{keys:List (Option Expr)}{values:8.6}(h:PPs X pos keys values trs)(hall:keys.all (·.isSome)=true)(hl:keys.length=values.length)(h0:keys≠[])
 (h15:keys.length<=15):PE X (.Dict keys values pos) (zth trs):=by
 intro pins s σ H Q I q;have hn:=I.hok.fresh (Qi s.heap.objs.size);have I1:=I.laid (a:=s.heap.objs.size) (o:=.dK []) (h':=s.heap.push { cls:=.type "dict",data:=.dict #[] }) (t':=s.toks) (λ_ _ q=>Qb _ q) (Qi _) (z1g s.heap I.big);refine wpAny_Dict_walk (knd:=mixKind X.prog X.w) hall hl h0 h15 (thn (h pins _ σ _ _ I1 (q _ hn)) λws s2 zz=>?_);obtain⟨ps,H2,I2,rel,e,kvs,ep,lk,q2⟩:=zz;subst ep;obtain⟨rs,c,rk⟩:=zlk (P:=X.prog) (w:=X.w) rel;obtain⟨z,hd,vs0,r0,dd⟩:=zox I2.hok e;cases r0;refine⟨rs,c,dd,λh' dd' hs=>⟨.ref s.heap.objs.size,_,?_,rfl,q2⟩⟩
 have hz:(zcq [] kvs).length<=sizeLine:=by
  have h1:=zd9 kvs [];rw[Jq] at h1;rw[GK];lia
 have he:∃q,h'.get? s.heap.objs.size=some q:=let ⟨q,_,_,hq,_⟩:=dd';⟨q,hq⟩
 exact zi7 I2 (by rw[e];exact ZQ) hs he (zkg hz hd (rk.merge .nil) dd')
end L2
namespace Att
open PySem PySem.W PySem.Calls PyProof.Rows
theorem zkw: ∀(ns:27.9) (vs:2.8),WellAll P h vs (ns.map WData.int)->Nu vs ns:=by
 intro ns
 induction ns with
 | nil=>
   intro vs w;rw[UL] at w;cases w;exact .nil
 | cons n ns ih=>
   intro vs w;rw[Qy] at w
   cases w with
   | cons a b=>
     cases a;exact .cons _ _ (ih _ b)
theorem zws{l:OpenLaw}{n:Nat}(hn:l.most=some n){P:Params}{h:Heap}{args:List WData}{vals:2.8}
 (hpre:l.row.toRowW.claim.pre args=true) (hwl:WellAll P h vals args) :
 ∃a vs ns,vals = [QP a]/\args = [WData.list (ns.map WData.int)]/\h.get? a=some { cls:=.type "list",data:=.seq vs.toArray }/\Nu vs ns/\ns.length<=n:=by
 have hsh:WShape.hasAll [] args [.list .int]=true:=(pre_splitW hpre).1;have hc:l.pre.holds [] { args:=args }=true:=(pre_splitW hpre).2;obtain⟨d,r,rfl,h1,h2⟩:=hasAllW_cons hsh;obtain rfl:=hasAllW_nil h2;obtain⟨xs,rfl,h3⟩:=hasW_list h1;obtain⟨ns,rfl⟩:=items_int h3
 have hlen:ns.length<=n:=by
  unfold OpenLaw.pre at hc
  have h4:(WTm.not (.lt (.lit (.int (n:Int))) (.len (.arg 0)))).holds [] { args:=[.list (ns.map .int)] }=true:=by
   have h4:=(holds_andW hc).1;rw[hn] at h4;exact h4
  have h5:=condW_of h4 (w_not (w_lt w_lit (w_len_list (w_arg rfl))));rw[Qf] at h5;refine Yb λq=>?_;have q':(n:Int)<((ns.length:Nat):Int):=by lia
  first
   | (rw[N6 q'] at h5;exact absurd h5 0.4)
   | (simp at h5;lia)
 cases hwl with
 | cons w1 w2=>
   cases w2
   cases w1 with
   | list ho hall=>exact⟨_,_,ns,rfl,rfl,ho,zkw ns _ hall,hlen⟩
theorem zwv(l:OpenLaw)(args:List WData):l.row.toRowW.claim.post args 13.1 args=true :=
 postW_of (r:=l.row.toRowW) (X:=(true == true))
  (show WShape.has [] 13.1 .bool=true by first|rfl|decide|simp[WShape.has,WShape.arms,WShape.armsAll])
  (show(WTm.eq .res (.lit 13.1)).value [] { args:=args,res:=some 13.1,after:=args }=some (.bool (true == true)) from w_eq_bool (w_res rfl) w_lit) rfl
theorem attach_call{l:OpenLaw}{n:Nat}{q:GJ}{loose:2.4}{XP:(Str->Option GE)->Heap->Prop}{YP:GL->Heap->Prop}{d:DefRec}
 (hn:l.most=some n) (hdf:d.params.defaults = [])
 (call:∀(w:GL) (s₀ s₁:GH) (mg mb:0.1) (fa:Addr) (o:Obj) (pm cd doc:GE) (a:Addr) (vs:2.8) (ns:27.9),
  Ground q loose [] XP w s₀ mg mb s₁.heap->YP w s₁.heap ->
  s₁.heap.get? fa=some o->o.data = .func (docDef d.name d.params d.body d.scope pm cd doc)->s₁.heap.CodeRec cd d.name->mg d.name=some (.ref fa) ->
  s₁.heap.get? a=some { cls:=.type "list",data:=.seq vs.toArray }->Nu vs ns->ns.length<=n->s₁.gens = #[] ->
  Ma (model l.prog w) callerA (.call (.ref fa) ⟨[.ref a],[]⟩) 18.8 s₁) :
 WalkO q loose XP YP l.row.toRowW d [] (λf vs=>Gm f vs):=by
 intro w s₀ s₁ mg mb G Y fa o pm cd doc dV kV ho hd hcd hD hmg hg args vals as hpre hlay hrd hwl hlo;obtain rfl:dV = .none:=Dflts.none hD hdf;obtain rfl:kV = .none:=Dflts.noKw hD;obtain⟨a,vs,ns,rfl,rfl,hobj,hints,hlen⟩:=zws hn hpre hwl;refine enter_call (TH (call w s₀ s₁ mg mb fa o pm cd doc a vs ns G Y ho (fd_plain hd) hcd hmg hobj hints hlen hg) λr s' hq=>?_);obtain⟨rfl,h2,h3,h4⟩:=hq;exact⟨.inl ⟨.bool true,.bool true,[],rfl,λ_=>rfl,.bool true,zwv l _,λ_=>⟨List.Pairwise.nil,λ_ hm=>(nomatch hm)⟩⟩,h2,h3,h4⟩
end Att
namespace L2
open PySem PySem.Spec PyProof.Rows
theorem znl:∀{vs:2.8} {ns:27.9},Nu vs ns->Vals 5e1 vs
 | _,_,.nil=>.nil
 | _,_,.cons n t h=>.cons ⟨t,rfl⟩ (znl h)
def Only(H:Hp):Prop:=∀b,H b=none\/∃o xs,H b=some (.frz o 2.3)
theorem z0d{P:GJ}{w:GL}{K:Qa}{mg mb:0.1}{CX:CXT}{k:Nat}{fa a:Addr}{fd:TM}{x:Str}{sp:Sp}{s₁:GH}{vs:2.8}{ns:27.9}
 (KX:K.In s₁.heap) (hns:s₁.heap.Ns mainGlobals mg) (hb:s₁.heap.Ns builtinsNs mb) (hbb:∀x:Str,x ≠ "__name__" -> mb x=GY x) (hlim:s₁.heap.NoLimit) (hg:s₁.gens = #[])
 (ha:s₁.heap.get? a=some { cls:=.type "list",data:=.seq vs.toArray }) (hi:Nu vs ns) (hl:ns.length<=sizeLine) (hr:Room k callerA)
 (F:∀base:Heap,K.In base->base.Ns mainGlobals mg->FnOk P w K mg base CX k fa fd [x] sp) (hbind:∀(s:GH) (u:GE),Nf s fd ⟨[u],[]⟩ [(x,u)])
 (hsp:∀H:Hp,Only H->SqL K H a 5e1->sp [.ref a] H (λv _=>v = .bl true) λ_ _ _=>False)
 (hCX:∀H e s',CX [] H s₁ (λ_ _ _=>False) e s'->False) :
 Ma 2.5 callerA (.call (.ref fa) ⟨[.ref a],[]⟩) 18.8 s₁:=by
 have rv:=znl hi;have lenV:=hi.length
 -- from an abstract heap in which nothing but the script may be tracked
 have core:∀H:Hp,Only H->SqL K H a 5e1->HOk P w H s₁.heap->(∀b,H b≠none->b=a)->(H a≠none->K.lookup a=none) ->
  Ma 2.5 callerA (.call (.ref fa) ⟨[.ref a],[]⟩) 18.8 s₁:=by
  intro H hO hS hok hA hK;have base_of:∀{b:Addr} {o:Obj},s₁.heap.get? b=some o->H b=none->(hidT s₁.heap H).get? b=some o:=λe n=>z0c e n
  have noA:∀{b:Addr} {o:Obj} {es:Array TL} {ep:Nat},s₁.heap.get? b=some o->o.data = .dict es ep->H b=none:=λ{b o es ep} e d=>by
   cases q:H b with
   | none=>rfl
   | some u=>
     have e':b=a:=hA b (by rw[q];simp);subst e';rw[ha] at e;cases e;have d':GB vs.toArray _=Data.dict es ep:=d;cases d'
  have nsK:∀{b:Addr} {m:0.1},s₁.heap.Ns b m->(hidT s₁.heap H).Ns b m:=λ{b m} ⟨o,es,ep,e,d,r⟩=>⟨o,es,ep,base_of e (noA e d),d,r⟩
  have hKb:K.In (hidT s₁.heap H):=λb o e=>base_of (KX b o e) (by
   cases q:H b with
   | none=>rfl
   | some u=>
     have e':b=a:=hA b (by rw[q];simp);subst e'
     rw[hK (by rw[q];simp)] at e;cases e)
  have hM:Mod K mg (hidT s₁.heap H):=⟨hKb,nsK hns,⟨mb,nsK hb,hbb⟩,let ⟨mc,h1,h2⟩:=hlim;⟨mc,nsK h1,h2⟩⟩;have e0:Env0 P w K mg (hidT s₁.heap H) callerA [] s₁ H:=⟨rfl,hM,λb o e=>z9c e,Y5 (zv3 _ _),trivial,λb hb=>absurd (show b∈([]:List Addr) from hb) 0.3,hok,.of_eq hg⟩;refine TH ((F _ hKb (nsK hns)).run callerA [] s₁ H ⟨[.ref a],[]⟩ [.ref a] [.ref a] _ _ hr e0 (hbind s₁ 3.0) (.cons rfl .nil) (hsp H hO hS)) λr s' h=>?_
  cases r with
  | error e=>exact(hCX H e s' h).elim
  | ok fl=>
    cases fl with
    | next=>exact Zr h
    | brk=>exact Zr h
    | cont=>exact Zr h
    | ret u=>
      obtain⟨v,H',os,bare,un,hok',r',q⟩:=h;have q':v = .bl true:=q;subst q';obtain rfl:u=ZL true:=r';refine⟨rfl,OldK.of_keep λb o e=>?_,os,bare⟩
      cases q:H b with
      | none=>exact un.keep b o e q (by intro z;exact absurd (show b∈([]:List Addr) from z) 0.3) 0.3
      | some u=>
        rcases hO b with z|⟨ob,xs,z⟩
        .rw[q] at z;cases z
        .have z2:=un.frzs b ob _ z;obtain⟨e1,_⟩:=hok b _ z;obtain⟨e2,_⟩:=hok' b _ z2;rw[e] at e1;cases e1;exact e2
 cases hk:K.lookup a with
 | some o=>
   -- the script is one of the module's own objects
   have e:=KX a o hk;rw[ha] at e;cases e;refine core (λ_=>none) (λ_=>.inl rfl) (.inr ⟨_,vs.toArray,_,hk,rfl,rfl,rfl,by rw[Qu,lenV];exact hl,by simpa using rv⟩) (λb u z=>by have z':(none:Option HO)=some u:=z;cases z') (λb z=>absurd rfl z) λz=>absurd rfl z
 | none=>
   refine core (λb=>if b=a then some (.frz { cls:=.type "list",data:=.seq vs.toArray } (.lst 5e1)) else none) (λb=>?_) (.inl (.inr ⟨{ cls:=.type "list",data:=.seq vs.toArray },N3 rfl⟩)) (λb u z=>?_) (λb z=>?_) λ_=>hk
   .by_cases hb:b=a
    .exact .inr ⟨_,_,N3 hb⟩
    .exact .inl (N4 hb)
   .by_cases hb:b=a
    .have z':=(N3 hb).symm.trans z;cases z';subst hb;exact⟨ha,by rw[Qf];exact hl,vs,_,rv,ha⟩
    .have z':=(N4 hb).symm.trans z;cases z'
   .by_cases hb:b=a
    .exact hb
    .exact absurd (N4 hb) z
theorem walk_of{l:VT}{n k:Nat}{q:GJ}{loose:2.4}{XP:(Str->Option GE)->Heap->Prop}{YP:GL->Heap->Prop}{d:DefRec}{K:Params->Qa}{CX:GL->CXT}{sp:GL->Sp}{x:Str}
 (hn:l.most=some n) (hn2:n<=sizeLine) (hdf:d.params.defaults = []) (hr:Room k callerA)
 (hY:∀(w:GL) (h:Heap),YP w h->(K w.params).In h)
 (F:∀(w:GL) (mg:0.1) (fa:Addr) (h:Heap),(K w.params).In h->h.Ns mainGlobals mg->mg d.name=some (.ref fa) ->
  ∃fd:TM,(∀(s:GH) (u:GE),Nf s fd ⟨[u],[]⟩ [(x,u)]) /\
    ∀base:Heap,(K w.params).In base->base.Ns mainGlobals mg->FnOk l.prog w (K w.params) mg base (CX w) k fa fd [x] (sp w))
 (hsp:∀(w:GL) (H:Hp) (a:Addr) (ns:27.9),ns.length<=n->Only H->SqL (K w.params) H a 5e1->sp w [.ref a] H (λv _=>v = .bl true) λ_ _ _=>False)
 (hCX:∀(w:GL) (H:Hp) (s:GH) (e:GE) (s':GH),CX w [] H s (λ_ _ _=>False) e s'->False) :
 Gu q loose XP YP l.row.toRowW d [] (λf vs=>Gm f vs):=by
 refine Att.attach_call hn hdf λw s₀ s₁ mg mb fa o pm cd doc a vs ns G Y ho hd hcd hmg hobj hints hlen hg=>?_;have KX:=hY w _ Y;obtain⟨fd,hb,hF⟩:=F w mg fa _ KX G.T.g hmg;exact z0d KX G.T.g G.T.b G.T.builtins G.T.nolimit hg hobj hints (QF hlen hn2) hr hF hb (λH hO hS=>hsp w H a ns hlen hO hS) λH e s'=>hCX w H s₁ e s'
def zb5(s:Stmt):No:=match s with
 | .FunctionDef _ a _ _ _ _ _ _ _ _=>a
 | _=>{ posonlyargs:=[],args:=[],vararg:=none,kwonlyargs:=[],kw_defaults:=[],kwarg:=none,defaults:=[] }
def zba(s:Stmt):List Stmt:=match s with
 | .FunctionDef _ _ b _ _ _ _ _ _ _=>b
 | _=>[]
def zag(s:Stmt):Tu:=match s with
 | .FunctionDef _ _ _ _ _ _ sc _ _ _=>sc
 | _=>{ kind:=.function,names:=[],isGenerator:=false,isCoroutine:=false }
abbrev CX0:CXT:=λ_ _ _ _ _ _=>False
abbrev E0:XK:=λ_ _ _=>False
theorem zoq: zkz CX0 X E0:=λ_ _ _ _ _ _ _ h=>h.elim
structure Fun(K:Qa)(x qual:Str)(st:Stmt)(f:Addr)(fd:TM):Prop where
 ex:∃(oc:GE) (od:4.6) (kV doc pm:GE) (an:4.6) (cdv ct:GE) (osl:3e0),
  fd=Zq x qual (zb5 st) (zba st) 7.2 .none kV doc pm an cdv ct/\K.lookup f=some ⟨oc,od,.func fd,osl⟩/\J2 K cdv qual=true
 kp:Jb K 9.1=true
section
variable {P:GJ}{w:GL}{K:Qa}{mg:0.1}{base:Heap}
theorem Fun.ok{x qual:Str}{st:Stmt}{f:Addr}{fd:TM}{N ps:2.4}{k:Nat}{sp:Sp}(F:Fun K x qual st f fd)(S:FnScope N ps 7.2)(len:∀vs H Q E,sp vs H Q E->vs.length=ps.length)
 (hbody:∀(cdv:GE) (A:GN) (outer:7e5) (s:GH) (H:Hp) (vs:5.4) (Q:VK) (E:XK),Room k (A.deeper (MI qual 7.2 s.heap.objs.size f cdv))->sp vs H Q E ->
  ∃t,PSs (cxOf CX0 P w K mg base N qual 7.2 f cdv A outer s H E).nox (zba st) t/\t { nx:=λ_ H'=>Q .non H',rt:=Q } (start N vs) H):FnOk P w K mg base CX0 (k+1) f fd ps sp:=by
 obtain⟨oc,od,kV,doc,pm,an,cdv,ct,osl,rfl,lk,hcd⟩:=F.ex;refine zow lk hcd S len λA outer s H vs Q E hr hsp=>?_;obtain⟨t,h,q⟩:=hbody cdv A outer s H vs Q E hr hsp;exact⟨t,h.nox,q⟩
theorem Fun.binds{x qual:Str}{st:Stmt}{f:Addr}{fd:TM}{ps:2.4}(F:Fun K x qual st f fd)
 (h:∀(kV doc pm:GE) (an:4.6) (cdv ct:GE) (us:2.8),us.length=ps.length->Tv 24.4 2e5=pure (ps.zip us)):Binds K fd ps []:=by
 obtain⟨oc,od,kV,doc,pm,an,cdv,ct,osl,rfl,lk,hcd⟩:=F.ex;exact .all (h kV doc pm an cdv ct)
theorem zxx{x qual:Str}{st:Stmt}{f:Addr}{oc:GE}{od an:4.6}{osl:3e0}{kV doc pm cdv ct:GE}(l:K.lookup f=some ⟨oc,od,.func 24.4,osl⟩)
 (c:J2 K cdv qual=true) (k:Jb K 9.1=true):Fun K x qual st f 24.4:=⟨⟨oc,od,kV,doc,pm,an,cdv,ct,osl,rfl,l,c⟩,k⟩
end
theorem zd0{k:Nat}(hr:Room k A):A.units+1<M8:=U7 (Nat.add_le_add_left (by decide:1<=64) _) hr.units
theorem iteF{A B:Prop}(h:B):if false=true then A else B:=by
 rw[N4 Qt];exact h
theorem iteT{A B:Prop}(h:A):if true=true then A else B:=by
 rw[N3 rfl];exact h
theorem ite2{c A B:Prop}[Decidable c](h1:c->A)(h2:¬c->B):if c then A else B:=by
 by_cases h:c
 .rw[N3 h];exact h1 h
 .rw[N4 h];exact h2 h
def Same(H H':Hp):Prop:=∀b o,H b=some o->H' b=some o
theorem Same.refl(H:Hp):Same H H:=λ_ _ h=>h
theorem Same.trans(a:Same H H1)(b:Same H1 H2):Same H H2:=λc o h=>b c o (a c o h)
theorem Same.free(e:Same H H')(h:H' l=QZ):H l=QZ:=by
 cases q:H l with
 | none=>rfl
 | some o=>
   rw[e l o q] at h;cases h
theorem Same.seq{K:Qa}{H H':Hp}{a:Addr}{xs:5.4}(e:Same H H')(h:SqL K H a xs):SqL K H' a xs:=by
 rcases h with (h|⟨o,h⟩)|h
 .exact .inl (.inl (e _ _ h))
 .exact .inl (.inr ⟨o,e _ _ h⟩)
 .exact .inr h
end L2
set_option maxHeartbeats 4000000
namespace L3
open PySem PySem.Spec
open PyProof.Rows hiding St
open L2
theorem zt4{α β:Type}{l:6.5}{f:α->β->Sem (ForInStep β)}(g:α->β->β):∀(c:β),(∀x∈l,∀c,f x c=pure (.yield (g x c)))->forIn l c f=pure (l.foldl (λc x=>g x c) c):=by
 induction l with
 | nil=>intro c _;rfl
 | cons x l ih=>
   intro c h;rw[List.forIn_cons,h x Q0,pure_bind];exact ih (g x c) λy hy=>h y (Qm _ hy)
def clOf(ns:21.2)(env:Env):List (Str×Addr):=ns.foldl (λcs x=>if x.2 == .free then(x.1,(env.cells.lookup x.1).getD 0)::cs else cs) []
theorem zu3{scope:Tu}(h:∀p∈scope.names,p.2 = .free->∃c,env.cells.lookup p.1=some c):closureFor scope env=pure (clOf scope.names env):=by
 simp only[closureFor];unfold clOf;rw[zt4 (λ(x:Str×TN) (cs:List (Str×Addr))=>if x.2 == .free then(x.1,(env.cells.lookup x.1).getD 0)::cs else cs)]
 .rfl
 .intro x hx c;obtain⟨n,k⟩:=x;dsimp only
  by_cases hk:k = .free
  .subst hk;obtain⟨a,ha⟩:=h _ hx rfl;have ha':env.cells.lookup n=some a:=ha;simp only[N9,NC,cellOf,ha',pure_bind,Option.getD_some]
  .have hb:(k == Zf)=false:=by simpa using hk
   simp only[hb,QR,NB]
theorem z6h{env:Env}{x:Str}:∀(ns:21.2) (acc:List (Str×Addr)) (c:Addr),
 (ns.foldl (λcs y=>if y.2 == .free then(y.1,(env.cells.lookup y.1).getD 0)::cs else cs) acc).lookup x=some c->acc.lookup x=some c\/((x,Zf)∈ns/\c=(env.cells.lookup x).getD 0):=by
 intro ns
 induction ns with
 | nil=>intro acc c h;exact .inl h
 | cons y r ih=>
   intro acc c h;obtain⟨n,k⟩:=y;rw[ZH] at h;rcases ih _ c h with h1|⟨h1,h2⟩
   .by_cases hk:k = .free
    .subst hk;simp only[N9,NC] at h1
     by_cases hx:x=n
     .subst hx;rw[Zp] at h1;cases h1;exact .inr ⟨Q0,rfl⟩
     .have hb:(x == n)=false:=by simpa using hx
      rw[ZE,hb] at h1;exact .inl h1
    .have hb:(k == Zf)=false:=by simpa using hk
     simp only[hb,QR,NB] at h1;exact .inl h1
   .exact .inr ⟨Qm _ h1,h2⟩
theorem zrk{env:Env}{x:Str}:∀(ns:21.2) (acc:List (Str×Addr)),(acc.lookup x).isSome=true\/(x,Zf)∈ns ->
 ((ns.foldl (λcs y=>if y.2 == .free then(y.1,(env.cells.lookup y.1).getD 0)::cs else cs) acc).lookup x).isSome=true:=by
 intro ns
 induction ns with
 | nil => intro acc h;rcases h with h|h
          .exact h
          .exact absurd h 0.3
 | cons y r ih=>
   intro acc h;obtain⟨n,k⟩:=y;rw[ZH];refine ih _ ?_
   by_cases hk:k = .free
   .subst hk;simp only[N9,NC]
    by_cases hx:x=n
    .subst hx;left;rw[Zp];rfl
    .have hb:(x == n)=false:=by simpa using hx
     rw[ZE,hb];rcases h with h|h
     .exact .inl h
     .rcases Q2.mp h with z|z
      .injection z with z1 _;exact absurd z1 hx
      .exact .inr z
   .have hb:(k == Zf)=false:=by simpa using hk
    simp only[hb,QR,NB];rcases h with h|h
    .exact .inl h
    .rcases Q2.mp h with z|z
     .injection z with _ z2;exact absurd z2.symm hk
     .exact .inr z
theorem zux{c:Addr}(h:(clOf ns env).lookup x=some c):(x,Zf)∈ns/\c=(env.cells.lookup x).getD 0:=by
 rcases z6h ns [] c h with z|z
 .cases z
 .exact z
theorem zyc{c:Addr}(h:(x,Zf)∈ns)(e:env.cells.lookup x=some c):(clOf ns env).lookup x=some c:=by
 obtain⟨d,hd⟩:=Yn.mp (zrk (env:=env) ns [] (.inr h));have hd':(clOf ns env).lookup x=some d:=hd;rw[hd',(zux hd').2,e];rfl
theorem zdv{env:Env}{x:Str}:∀(names:21.2),
 (names.map λ(n,k)=>if 21.4 then(n,Zj) else(n,k)).lookup x =
  (names.lookup x).map λk=>if(k == Zf && env.scope.kind == .function && env.kindOf x == some .cell) then Zj else k
 | []=>rfl
 | (n,k)::r=>by
   have ih:=zdv (env:=env) (x:=x) r;show Ja x ((if 21.4=true then(n,Zj) else(n,k))::_)=_
   by_cases hx:x=n
   .subst hx
    by_cases hc:(k == Zf && env.scope.kind == .function && env.kindOf x == some .cell)=true
    .rw[N3 hc,Zp,Zp,JJ,N3 hc]
    .rw[N4 hc,Zp,Zp,JJ,N4 hc]
   .have hb:(x == n)=false:=by simpa using hx
    by_cases hc:21.4=true
    .rw[N3 hc,ZE,hb,ZE,hb];exact ih
    .rw[N4 hc,ZE,hb,ZE,hb];exact ih
theorem zlq{c:Addr}:∀(names:21.2) (h:Heap) (acc:List (Str×Addr)),(Ts h.objs.size names acc).lookup x=some c ->
 acc.lookup x=some c\/((x,Zj)∈names/\h.objs.size<=c/\(pushCells h names).IsCell c none)
 | [],_,_,e=>.inl e
 | (n,k)::r,h,acc,e=>by
   unfold Ts at e;unfold pushCells
   by_cases hk:k = .cell
   .subst hk;simp only[N9,NC] at e ⊢;rw[<- Zh h { cls:=.type "cell",data:=.cell none }] at e;rcases zlq r _ _ e with z|⟨z1,z2,z3⟩
    .by_cases hx:x=n
     .subst hx;rw[Zp] at z;cases z;exact .inr ⟨Q0,Qi _,⟨_,MQ r _ _ _ (Qp _ rfl),rfl⟩⟩
     .have hb:(x == n)=false:=by simpa using hx
      rw[ZE,hb] at z;exact .inl z
    .rw[Zh] at z2;exact .inr ⟨Qm _ z1,by lia,z3⟩
   .have hb:(k == Zj)=false:=by simpa using hk
    simp only[hb,QR,NB] at e ⊢;rcases zlq r h acc e with z|⟨z1,z2,z3⟩
    .exact .inl z
    .exact .inr ⟨Qm _ z1,z2,z3⟩
theorem zj9: ∀(names:21.2) (n:Nat) (acc:List (Str×Addr)),(x,Zj) ∉ names->(Ts n names acc).lookup x=acc.lookup x
 | [],_,_,_=>rfl
 | (y,k)::r,n,acc,h=>by
   have hr:(x,Zj) ∉ r:=λz=>h (Qm _ z);unfold Ts
   by_cases hk:k = .cell
   .subst hk;simp only[N9,NC]
    have hx:(x == y)=false:=by
     have:x≠y:=λz=>h (by rw[z];exact Q0);simpa using this
    rw[zj9 r _ _ hr,ZE,hx]
   .have hb:(k == Zj)=false:=by simpa using hk
    simp only[hb,QR,NB];exact zj9 r n acc hr
theorem zqi:∀(names:21.2) (n:Nat) (acc:List (Str×Addr)),(∀x c,acc.lookup x=some c->c<n)->(∀x y c,acc.lookup x=some c->acc.lookup y=some c->x=y) ->
 ∀x y c,(Ts n names acc).lookup x=some c->(Ts n names acc).lookup y=some c->x=y
 | [],_,_,_,hi=>hi
 | (a,k)::r,n,acc,hb,hi=>by
   unfold Ts
   by_cases hk:k = .cell
   .subst hk;simp only[N9,NC]
    have lk:∀x c,((a,n)::acc).lookup x=some c->(x=a/\c=n)\/(x≠a/\acc.lookup x=some c):=λx c e=>by
     by_cases hx:x=a
     .subst hx;rw[Zp] at e;cases e;exact .inl ⟨rfl,rfl⟩
     .have hz:(x == a)=false:=by simpa using hx
      rw[ZE,hz] at e;exact .inr ⟨hx,e⟩
    refine zqi r (n+1) _ (λx c e=>?_) λx y c e1 e2=>?_
    .rcases lk x c e with ⟨_,z⟩|⟨_,z⟩
     .rw[z];exact ZR _
     .exact Zv (hb x c z)
    .rcases lk x c e1 with ⟨z1,w1⟩|⟨z1,w1⟩ <;> rcases lk y c e2 with ⟨z2,w2⟩|⟨z2,w2⟩
     .rw[z1,z2]
     .exact absurd (hb y c w2) (by rw[w1];exact Zi _)
     .exact absurd (hb x c w1) (by rw[w2];exact Zi _)
     .exact hi x y c w1 w2
   .have hz:(k == Zj)=false:=by simpa using hk
    simp only[hz,QR,NB];exact zqi r n acc hb hi
theorem zt6{s:GH}{scope:Tu}{globals:Addr}{qual:Str}{code:GE}{builtins:Addr} 
 (h:∀h',h'.Ns s.heap.objs.size (λ_=>none)->(∀b o,s.heap.get? b=some o->h'.get? b=some o)->(∀x c,(Ts 3.3 scope.names cl).lookup x=some c->cl.lookup x=some c\/((x,Zj)∈scope.names/\s.heap.objs.size+1<=c/\h'.IsCell c none)) ->
  Q (newEnv scope s.heap.objs.size globals (Ts 3.3 scope.names cl) qual none code (some env) builtins) 3.9) :
 wpAny M A (newFunctionEnv scope globals cl [] qual none code (some env) builtins) Q E s:=by
 simp only[newFunctionEnv,U6,NC];refine GD (Nt ?_);refine GD (wpAny_layCells _ (λname kind cells=>by cases hkc:kind == Zj <;> simp[hkc]) _ _ _ _ ?_);rw[show(23.3:GH).heap.objs.size=s.heap.objs.size+1 from Zh ..];rw[List.forIn_nil];refine GD (GG (GG (h _ ((Heap.Ns.new s.heap 26.6).keeps (MQ _ _)) (λb o e=>MQ _ _ b o (Qb _ e)) λx c e=>?_)));have:=zlq scope.names 27.0 cl (x:=x) (c:=c) (by rw[Zh];exact e);rwa [Zh] at this
def zbw(X:Cx)(scope:Tu)(N':2.4)(C:Addr)(s:GH)(H:Hp)(ex:3e9):Cx :=
 { X with N:=N',s₀:=s,H₀:=H,env:=compEnvC scope (Ts (C+1) scope.names 13.3) C X.env,outer:=X.stack,stack:=X.stack,ex:=ex,fn:=λx=>scope.names.lookup x == some .cell,pn:=[],xe:=λ_ _=>False }
def zsb(h:Nat)(N' N:2.4)(names sc:21.2):Bool :=
 decide (N'.length=h+N.length) && decide N'.Nodup
 && (names.all λp=>(p.2 != .cell || names.lookup p.1 == some .cell) && (p.2 != .local || names.lookup p.1 == some .local) && (p.2 != .free || (names.lookup p.1 == some .free && (sc.lookup p.1 == some .cell || sc.lookup p.1 == some .free))))
 && (((N'.drop h).zip N).all λp=>match names.lookup p.1 with|some .free=>p.1 == p.2|some .local=>false|some .cell=>false|_=>true)
structure ScopeOk(h:Nat)(N' N:2.4)(scope:Tu)(sc:Tu):Prop where
 kind:scope.kind = .function
 len:N'.length=h+N.length
 nd:N'.Nodup
 cell:∀y∈scope.names,y.2 = .cell->scope.names.lookup y.1=some .cell
 loc:∀y∈scope.names,y.2 = .local->scope.names.lookup y.1=some .local
 free:∀y∈scope.names,y.2 = .free->scope.names.lookup y.1=some .free/\(sc.names.lookup y.1=some .cell\/sc.names.lookup y.1=some .free)
 out:∀(i:Nat) (x:Str) (k:TN),N'[h+i]? = some x->scope.names.lookup x=some k->(k = .local\/k = .cell\/k = .free)->N[i]? = some x/\k = .free
theorem ScopeOk.of{h:Nat}{scope:Tu}(hk:scope.kind = .function)(e:zsb h N' N scope.names sc.names=true):ScopeOk h N' N scope sc:=by
 unfold zsb at e;simp only[Q6,N8,ZS] at e;obtain⟨⟨⟨e1,e2⟩,e3⟩,e4⟩:=e;refine⟨hk,e1,e2,λy hy z=>?_,λy hy z=>?_,λy hy z=>?_,λi x k hx hl hkk=>?_⟩
 .have:=e3 y hy;rw[z] at this;simpa using this
 .have:=e3 y hy;rw[z] at this;simpa using this
 .have:=e3 y hy;rw[z] at this;simpa using this
 .have h1:(N'.drop h)[i]? = some x:=by rw[Zk];exact hx
  have hi:i<N.length:=by
   obtain⟨z,_⟩:=Qc.mp hx;lia
  have h2:N[i]? = some N[i]:=Qg hi
  have hm:(x,N[i])∈(N'.drop h).zip N:=by
   refine Zg (i:=i) ?_;rw[Vq];exact⟨h1,h2⟩
  have q:=e4 _ hm;rw[hl] at q;rcases hkk with rfl|rfl|rfl
  .exact absurd q 0.3
  .exact absurd q 0.3
  .have q':x=N[i]:=by simpa using q
   exact⟨by rw[h2,<- q'],rfl⟩
def PF(X:Cx)(ifs:8.6)(t:TT):Prop :=
 ∀(pins:1.1) (s:GH) (σ:St) (H:Hp) (Q:Bool->Hp->Prop),Inv X pins σ H s->t σ H Q ->
   wpAny 0.5 X.A (forIn ifs true λc r=>if r=true then do let ok <- isTrue c X.env (eval c X.env);pure (Yq ok) else pure (Yq r)) (TP X pins σ Q) X.xe s
def tYes:TT:=λ_ H Q=>Q true H
theorem zqh: PF X [] tYes:=λ_ _ _ H _ I h=>wpAny_tests_nil ⟨H,I,h⟩
theorem zxg{c:Expr}(h:PT X c t):PF X [c] t:=λpins s σ H Q I q=>wpAny_tests_one (h pins s σ H Q I q)
def OwnG(h:Nat)(g:TG):Prop:=∀v (σ:St) H Q,h<=σ.length->g v σ H Q->g v σ H λσ2 H2=>Q σ2 H2/\σ2.length=σ.length/\σ2.drop h=σ.drop h
theorem ze8{h i:Nat}(hi:i<h):OwnG h (zau i):=λv σ H Q hl q=>⟨q,by simp,by rw[List.drop_set_of_lt hi]⟩
def zo3(h:Nat)(g:TGs):Prop:=∀vs (σ:St) H Q,h<=σ.length->g vs σ H Q->g vs σ H λσ2 H2=>Q σ2 H2/\σ2.length=σ.length/\σ2.drop h=σ.drop h
theorem z9e{h:Nat}:zo3 h gNil:=λvs σ H Q _ q=>⟨q.1,q.2,rfl,rfl⟩
def MonG(g:TG):Prop:=∀v σ H (Q Q':St->Hp->Prop),(∀σ H,Q σ H->Q' σ H)->g v σ H Q->g v σ H Q'
def zkf(g:TGs):Prop:=∀v σ H (Q Q':St->Hp->Prop),(∀σ H,Q σ H->Q' σ H)->g v σ H Q->g v σ H Q'
theorem zpx{i:Nat}:MonG (zau i):=λ_ _ _ _ _ h q=>h _ _ q
theorem z4r:zkf gNil:=λ_ _ _ _ _ h q=>⟨q.1,h _ _ q.2⟩
theorem zzm(a:MonG g)(b:zkf gs):zkf (zkc g gs):=λvs σ H Q Q' h ⟨v,r,e,q⟩=>⟨v,r,e,a _ _ _ _ _ (λσ' H' z=>b _ _ _ _ _ h z) q⟩
theorem z0s{h:Nat}(m:MonG g)(m2:zkf gs)(a:OwnG h g)(b:zo3 h gs):zo3 h (zkc g gs):=λvs σ H Q hl ⟨v,r,e,q⟩=>by
 refine⟨v,r,e,m _ _ _ _ _ (λσ' H' z=>?_) (a v σ H _ hl q)⟩;obtain⟨z1,z2,z3⟩:=z;exact m2 _ _ _ _ _ (λσ2 H2 ⟨y1,y2,y3⟩=>⟨y1,y2.trans z2,y3.trans z3⟩) (b r σ' H' Q 0.0 z1)
def zeq(h:Nat)(wi:TI)(g:TG)(tf:TT)(te:TE):TE:=λσ H Q=>wi σ H λJ H1=>∀D,H1 D=none->∃W:Nat->Nat->List V->Hp->Prop,(∃m,W 0 m [] (upd H1 D (.lst [])))/\∀i m ys H,W i m ys H ->
 H D=some 6.7/\((J.stop i H/\Q (.ref D) H)\/(J.go i H/\∀x H',J.yld i H x H'->g x 21.9 H' λσ2 H2=>tf σ2 H2 λc H3=>
   if c=true then te σ2 H3 λy H4=>H4 D=some 6.7/\ys.length<sizeLine/\∃m',m'<m/\W (i+1) m' (ys ++ [y]) (upd H4 D (.lst (ys ++ [y]))) else ∃m',m'<m/\W (i+1) m' ys H3))
theorem zrn{prog:GJ}{R:Nz->GH->Prop}{s:GH}{target iter:Expr}{scope:Tu}(I:Nat->GH->Prop)
 (turn:∀n s,I n s->wpAny 1.3 A (M6 it) (λr s₁=>match r with
  | none=>R (.ok .next) s₁
  | some v=>wpAny 1.3 A (Mr target it v) (λ_ s₀=>wpAny 1.3 A (MS target env v) (λ_ s₂=>
   wpAny 1.3 A (forIn ifs true λc r=>if r=true then do let ok <- isTrue c env (eval c env);pure (Yq ok) else pure (Yq r)) (λok s₃=>
    if ok=true then wpAny 1.3 A (eval elt env) (λx s₄=>
     wpAny 1.3 A (call (.builtin "list.append") [acc,x]) (λ_ s₅=>∃m,m<n/\I m s₅) 2e7 s₄) 2e7 s₃
    else ∃m,m<n/\I m s₃) 2e7 s₂) 2e7 s₀) 2e7 s₁) 2e7 s)
 (n:Nat) (h:I n s):Ma 1.3 A (.compLoop (.ListComp elt [⟨target,iter,ifs,0⟩] scope pos) 0 it acc env) R s:=by
 refine codeAny_loop rfl I (λn s hI=>?_) n h;show wpAny _ A ((compTurn (.ListComp elt [⟨target,iter,ifs,0⟩] scope pos) 0 it acc env).onRaise (λx=>do noteFrame x env;theTreesLotGoes x)) _ _ s;refine wpAny_noted ?_;rw[compTurn_list];refine GD (M7 (GD (GQ (turn n s hI) (λr s₁ h₁=>?_) λ_ _ h'=>h'.elim)))
 cases r with
 | none=>exact GG h₁
 | some v=>
   refine GD (GQ h₁ (λ_ s₀ h₀=>?_) λ_ _ h'=>h'.elim);refine GD (GQ h₀ (λ_ s₂ h₂=>GD (GQ h₂ (λok s₃ h₃=>?_) λ_ _ h'=>h'.elim)) λ_ _ h'=>h'.elim)
   cases ok with
   | false=>exact GG ⟨rfl,h₃⟩
   | true=>
     exact GD (GD (GQ h₃ (λx s₄ h₄=>GD (GQ h₄ (λ_ s₅ h₅=>GG (GG ⟨rfl,h₅⟩)) λ_ _ h'=>h'.elim)) λ_ _ h'=>h'.elim))
section
variable {X:Cx}{pins:1.1}{σ:St}{H:Hp}{s:GH}
theorem zgd{h:Nat}{scope:Tu}(I:0.6)(S:8.2):∀x c,(clOf scope.names X.env).lookup x=some c->X.env.cells.lookup x=some c:=λx c e=>by
 obtain⟨h1,h2⟩:=zux e;obtain⟨d,hd⟩:=I.ok.has x (S.free _ h1 rfl).2;rw[hd] at h2 ⊢;rw[h2];rfl
theorem zml{h:Nat}{scope:Tu}(S:8.2)(hf:(x,Zf)∈scope.names):(x,Zj) ∉ scope.names:=λz=>by
 have a:=(S.free _ hf rfl).1;have b:=S.cell _ z rfl;rw[show scope.names.lookup x=some .free from a] at b;cases b
theorem zkl{h:Nat}{scope:Tu}(I:0.6)(S:8.2):∀x c,(Ts 3.3 scope.names 13.3).lookup x=some c->X.env.cells.lookup x=some c\/((x,Zj)∈scope.names/\s.heap.objs.size+1<=c):=λx c e=>by
 have z:=zlq scope.names 27.0 13.3 (x:=x) (c:=c) (by rw[Zh];exact e);rw[Zh] at z;rcases z with z|⟨z1,z2,_⟩
 .exact .inl (zgd I S x c z)
 .exact .inr ⟨z1,z2⟩
theorem ztn{h:Nat}{scope:Tu}(I:0.6)(S:8.2):∀x c,(clOf scope.names X.env).lookup x=some c->c<s.heap.objs.size+1:=λx c e=>by
 obtain⟨v,o,ho,_⟩:=I.cell x c (zgd I S x c e);exact Zv (Qs ho)
theorem z8n{h:Nat}{scope:Tu}(I:0.6)(S:8.2)(hf:∀b∈fp,FpOk X pins H b)(hlt:∀b∈fp,b<s.heap.objs.size):
 (zbw X scope N' s.heap.objs.size s H fp).Ok:=by
 have cl:=zkl I S;refine⟨I.ok.mod,?_,I.ok.glob,I.ok.blt,Qi _,zqi _ _ _ (ztn I S) λx y c e1 e2=>I.ok.inj x y c (zgd I S x c e1) (zgd I S y c e2),λx hx=>?_,λx c z e=>?_,I.ok.hd,I.ok.frames,.inl rfl,λb hb=>⟨Qz (hlt b hb),λx c e=>(cl x c e).elim (λz=>(hf b hb).2.2.2.2.1 x c z) λz w=>Zi _ (QE (hlt b hb) (JV (w ▸ z.2)))⟩,λb o e=>I.bs b o e,QF I.ok.bsz I.sz,λb o e hb=>?_,λb hb z=>?_,I.stack,I.stkFree⟩
 .exact S.kind
 .have hx':(relabel scope X.env).names.lookup x=some .cell\/(relabel scope X.env).names.lookup x=some .free:=hx;have e:=zdv (env:=X.env) (x:=x) scope.names
  have hl:scope.names.lookup x=some .free\/scope.names.lookup x=some .cell:=by
   cases q:scope.names.lookup x with
   | none=>rw[q] at e;rcases hx' with z|z <;> (have z':=e.symm.trans z;cases z')
   | some k=>
     rw[q,JJ] at e
     by_cases hk:k = .free
     .rw[hk];exact .inl rfl
     .have hc:¬20.8=true:=by
       have:(k == Zf)=false:=by simpa using hk
       rw[this];simp
      rw[N4 hc] at e;rcases hx' with z|z
      .have z':=e.symm.trans z;cases z';exact .inr rfl
      .have z':=e.symm.trans z;cases z';exact .inl rfl
  rcases hl with hl|hl
  .have hm:=Z2 hl;obtain⟨c,hc⟩:=I.ok.has x (S.free _ hm rfl).2;exact⟨c,(zj9 _ _ _ (zml S hm)).trans (zyc hm hc)⟩
  .exact Yn.mp (Y0 _ _ _ (.inl hl))
 .have z:(scope.names.lookup x == some Zj)=true:=z;have z:scope.names.lookup x=some .cell:=by simpa using z
  rcases zlq scope.names 27.0 13.3 (x:=x) (c:=c) (by rw[Zh];exact e) with w|⟨_,w,_⟩
  .exact absurd (Z2 z) (zml S (zux w).1)
  .rw[Zh] at w;exact JV w
 .rcases(hf b hb).2.2.2.1 with z|z
  .exact I.ok.noex b o e z
  .exact absurd (QE (Qs (I.ok.bs b o e).1) z) (Zi _)
 .obtain⟨_,f1,f2,_⟩:=hf b hb;rcases Q2.mp (I.stkSub b z) with q|q
  .exact f1 q
  .exact f2 q
theorem zuo{h:Nat}{scope:Tu}{tk:Nat}(I:0.6)(S:8.2)(hf:∀b∈fp,FpOk X pins H b)(hlt:∀b∈fp,b<s.heap.objs.size)
 (hn:h'.Ns s.heap.objs.size λ_=>none) (kp:∀b o,s.heap.get? b=some o->h'.get? b=some o) (hcs:∀x c,(Ts 3.3 scope.names 13.3).lookup x=some c->(clOf scope.names X.env).lookup x=some c\/((x,Zj)∈scope.names/\s.heap.objs.size+1<=c/\h'.IsCell c none)) :
 Inv (zbw X scope N' s.heap.objs.size s H fp) [] 21.9 H 3.5:=by
 have ok:=z8n I S hf hlt;have cl:=zgd I S;refine⟨ok,rfl,I.bare,Un.kept kp,⟨_,hn,λi x v e1 e2 e3=>?_⟩,λx c e=>?_,I.hok.fresh (Qi _),λx c e=>(hcs x c e).elim (λz=>I.freeC x c (cl x c z)) λz=>I.hok.fresh (JV z.2.1),λp hp=>absurd (show p∈([]:List (Addr×Obj)) from hp) 0.3,I.hok.kept kp,?_⟩
 .have e1:N'[i]? = some x:=e1
  by_cases hi:i<h
  .rw[Q7 1e7,ZA,N3 hi] at e2;cases e2
  .obtain⟨j,rfl⟩:∃j,i=h+j:=⟨i-h,by lia⟩;rw[QN 0.3,Zo,Nat.add_sub_cancel_left] at e2;have e3:Vis (relabel scope X.env) x:=e3;have er:=zdv (env:=X.env) (x:=x) scope.names
   have hl:∃k,scope.names.lookup x=some k/\(k = .local\/k = .cell\/k = .free)/\(relabel scope X.env).names.lookup x=some (if 20.8 then Zj else k):=by
    cases q:scope.names.lookup x with
    | none=>rw[q] at er;rcases e3 with z|z|z <;> (have z':=er.symm.trans z;cases z')
    | some k=>
      rw[q,JJ] at er;refine⟨k,rfl,?_,er⟩
      by_cases hc:20.8=true
      .simp only[Q6,ND] at hc;exact .inr (.inr hc.1.1)
      .rw[N4 hc] at er;rcases e3 with z|z|z <;> (have z':=er.symm.trans z;cases z';simp)
   obtain⟨k,hk,hkk,hre⟩:=hl;obtain⟨hN,rfl⟩:=S.out j x k e1 hk hkk;have hm:=Z2 hk;have hfr:=(S.free _ hm rfl).2;obtain⟨m,hnm,hlk⟩:=I.loc;obtain⟨u,ru,lk⟩:=hlk j x v hN e2 (by rcases hfr with z|z;exact .inr (.inl z);exact .inr (.inr z));refine⟨u,ru,?_⟩;rcases lk with ⟨hloc,_⟩|⟨hkd,c,hc,hcell⟩
   .have hloc:X.env.scope.names.lookup x=some .local:=hloc;rcases hfr with z|z <;> (rw[hloc] at z;cases z)
   .refine .inr ⟨?_,c,(zj9 _ _ _ (zml S hm)).trans (zyc hm hc),?_⟩
    .show(relabel scope X.env).names.lookup x=some .cell\/(relabel scope X.env).names.lookup x=some .free;rw[hre]
     split
     .exact .inl rfl
     .exact .inr rfl
    .obtain⟨o,ho,hd⟩:=hcell;exact⟨o,kp c o ho,hd⟩
 .rcases hcs x c e with z|z
  .obtain⟨v,o,ho,hd⟩:=I.cell x c (cl x c z);exact⟨v,o,kp c o ho,hd⟩
  .exact⟨_,z.2.2⟩
 .show(Qn h none++σ).length=N'.length;rw[Qk,Zo,S.len,I.len]
theorem z1o{h:Nat}{scope:Tu}{pins':1.1}(I:0.6)(S:8.2)(hf:∀b∈fp,FpOk X pins H b)
 (J:Inv (zbw X scope N' s.heap.objs.size s H fp) pins' σ' H' s') (hs:ZV s.heap.objs.size s'.heap h'):Inv X pins σ H' { s' with heap:=h' }:=by
 have ne:∀b o,s.heap.get? b=some o->b≠s.heap.objs.size:=λb o e=>Qz (Qs e);have u:Un (frs X.stack) fp H H' s.heap s'.heap:=J.base;have hC:H' s.heap.objs.size=none:=J.free;obtain⟨m0,⟨oC,_,_,hoC,_⟩,_⟩:=id J.loc;refine I.call' (s':={ s' with heap:=h' }) (ch:=fp) J.os ⟨λb o e n hb hx=>(hs.2 b (ne b o e)).trans (u.keep b o e n hb hx),λb o e n hb hx=>?_,u.free,λb o e hx=>?_,u.tups,u.frzs,u.tbls⟩ (λb ob e=>?_) J.bare λb hb=>?_
 .obtain⟨sl,z⟩:=u.slot b o e n hb hx;exact⟨sl,(hs.2 b (ne b o e)).trans z⟩
 .obtain⟨o',z⟩:=u.there b o e hx;exact⟨o',(hs.2 b (ne b o e)).trans z⟩
 .refine(J.hok b ob e).stay (λc w' hc q=>(hs.2 c ?_).trans q) (λ_ q=>q) λ_ _ q=>q;rintro rfl;rcases hc with z|z
  .rw[<- z,hC] at e;cases e
  .rw[hC] at z;cases z
 .obtain⟨_,f1,_,f3,f4,f5⟩:=hf b hb;exact⟨f3,f1,f4,f5⟩
end
theorem zni{iter:Expr}{scope:Tu}{wi:TI}{R:1.7}{pins:1.1}{s:GH}(h:Nat)(S:8.2)(hc:6e4)(hi:PI X tg iter wi)
 (hg:∀C s H ex,PG 2e4 tg g) (ho:OwnG h g) (ht:∀C s H ex,PF 2e4 ifs tf) (he:∀C s H ex,PE 2e4 elt te)
 (hs:∀x,Th iter X.env x=pure x) (I:0.6) (hq:zeq h wi g tf te σ H Q)
 (fin:∀(D:Addr) (H3 H5:Hp) (s3 s6:GH) m6 fl,Inv X pins σ H3 s3->(∀h7,ZV s3.heap.objs.size s6.heap h7->Inv X pins σ H5 { s6 with heap:=h7 })->H5 s3.heap.objs.size=none->s6.heap.Ns s3.heap.objs.size m6->Q (.ref D) H5->compPost 0.5 X.A X.xe use R (.ref D) s3.heap.objs.size (.ok fl) s6) :
 wpAny 0.5 X.A (comprehension 0e3 scope X.env cp (Nw []) false (eval iter X.env) use) R X.xe s:=by
 refine wpAny_comprehension_free (use:=use) rfl hs (zu3 (env:=X.env) λp hp hk=>I.ok.has p.1 (S.free p hp hk).2) S.kind S.loc ?_;refine thn (hi pins s σ H _ I hq) λv s1 h1=>thn h1 λitv s2 h2=>?_;obtain⟨it,fp,tn,J,H2,rfl,I2,T,st2,f2,hq⟩:=h2;refine GP ?_ (by show 0<=sizeLine;exact Qw _);have hD:H2 s2.heap.objs.size=none:=I2.hok.fresh (Qi _);have I3:Inv X pins σ 4e3 { s2 with heap:=s2.heap.push { cls:=.type "list",data:=.seq ([]:List GE).toArray },toks:=s2.toks }:=I2.lnew (t':=s2.toks) .nil (Qw _);generalize hs3:({ s2 with heap:=s2.heap.push { cls:=.type "list",data:=.seq ([]:List GE).toArray },toks:=s2.toks }:GH)=s3 at I3;have hs3':({ s2 with heap:=s2.heap.push { cls:=.type "list",data:=.seq ([]:List GE).toArray } }:GH)=s3:=hs3;obtain⟨W,⟨m0,w0⟩,turn⟩:=hq s2.heap.objs.size hD
 have olt:∀b∈fp,b<s2.heap.objs.size:=λb hb=>by
  obtain⟨o,e,_⟩:=T.obj _ _ st2 b hb;exact Qs e
 have hsz:s3.heap.objs.size=s2.heap.objs.size+1:=by rw[<- hs3];exact Zh ..
 have k23:∀b o,s2.heap.get? b=some o->s3.heap.get? b=some o:=λb o e=>by rw[<- hs3];exact Qb _ e
 have f3:∀b∈fp,FpOk X pins 4e3 b:=λb hb=>⟨by rw[zac (Qz (olt b hb))];exact(f2 b hb).1,(f2 b hb).2⟩;have lt3:∀b∈fp,b<s3.heap.objs.size:=λb hb=>by rw[hsz];exact Zv (olt b hb)
 refine zt6 λh4 hn4 k34 cs4=>?_;have I4:=zuo (h':=h4) (tk:=s3.toks) I3 S f3 lt3 hn4 k34 cs4;have st4:tn 0 h4:=T.keep _ _ _ st2 λb hb o e=>k34 b o (k23 b o e);generalize hX:zbw X scope N' s3.heap.objs.size s3 4e3 fp=X' at I4;have hA:X'.A=X.A:=by rw[<- hX];rfl
 -- the iterator's objects,in the block
 have fpX:∀{H':Hp} {pl:1.1},16.1->pl = []->∀b∈fp,FpOk X' pl H' b:=λ{H' pl} hn0 hpl b hb=>by
  subst hpl;obtain⟨q0,q1,q2,q3,q4,q5⟩:=f3 b hb;subst hX;refine⟨hn0 b hb,Qz (lt3 b hb),λz=>?_,.inl hb,λx c e=>(zkl I3 S x c e).elim (q4 x c) λz w=>Zi _ (QE (lt3 b hb) (JV (w ▸ z.2))),λp hp=>absurd (show p∈([]:List (Addr×Obj)) from hp) 0.3⟩;rcases Q2.mp (I3.stkSub b z) with z|z
  .exact q1 z
  .exact q2 z
 have hcX:X'.calm=true:=by rw[<- hX];exact hc
 have hR:∀s':GH,(∃(m:Nat) (i:Nat) (ys:5.4) (H':Hp),Inv X' [] 21.9 H' s'/\tn i s'.heap/\16.1/\W i m ys H')->True:=λ_ _=>trivial
 have loop:∀(sL:GH),(Inv X' [] 21.9 4e3 sL)->tn 0 sL.heap ->
  Ma 0.5 X.A (.compLoop 0e3 0 6.2 20.6 X'.env)
   (compPost 0.5 X.A X.xe use R 20.6 s3.heap.objs.size) sL:=by
  intro sL IL stL;refine zrn (λn s'=>∃i ys H',Inv X' [] 21.9 H' s'/\tn i s'.heap/\16.1/\W i n ys H') ?_ m0 ⟨0,[],_,IL,stL,λb hb=>(f3 b hb).1,w0⟩;rintro n s5 ⟨i,ys,H5,I5,st5,fr5,w5⟩;obtain⟨hDy,hh⟩:=turn i n ys H5 w5;have eP:X'.prog=X.prog:=by rw[<- hX];rfl
  have eW:X'.w=X.w:=by rw[<- hX];rfl
  have eK:X'.K=X.K:=by rw[<- hX];rfl
  have eE:X'.xe=λ_ _=>False:=by rw[<- hX];rfl
  rcases hh with ⟨stop,qn⟩|⟨go,step⟩
  .have:=T.done X' eP eW eK hcX i [] s5 _ H5 2e7 I5 (fpX fr5 rfl) st5 stop;rw[hA] at this;refine thn this λr s6 zz=>?_;obtain⟨hr,I6⟩:=zz;subst hr;obtain⟨m6,hm6,_⟩:=id I6.loc;rw[<- hX] at hm6 I6;exact fin _ _ H5 s3 s6 m6 _ I3 (λh7 hs7=>z1o I3 S f3 I6 hs7) I6.free hm6 qn
  .have:=T.item X' eP eW eK hcX i [] s5 _ H5 2e7 I5 (fpX fr5 rfl) st5 go;rw[hA] at this;refine thn this λr s6 zz=>?_;obtain⟨u,hr,h6⟩:=zz;subst hr;refine thn h6 λ_ s7 zz=>?_;obtain⟨x,H7,I7,r7,y7,st7,fr7⟩:=zz;have I7':=I7.pinned (fpX fr7 rfl) (T.obj _ _ st7)
   have back:∀{σ':St} {H':Hp} {s':GH},Inv X' ([]++zho fp s7.heap) σ' H' s'->σ'.length=(Qn h none++σ:St).length->σ'.drop h=(Qn h none++σ:St).drop h ->
    Inv X' [] 21.9 H' s'/\tn (i+1) s'.heap/\∀b∈fp,H' b=none:=by
    intro σ' H' s' I' hl hd;refine⟨I'.unpinned.weak hl.symm λj v e=>?_,T.keep _ _ _ st7 λb hb o e=>?_,λb hb=>?_⟩
    .by_cases hj:j<h
     .rw[Q7 (by simpa using hj),ZA,N3 hj] at e;cases e
     .have e1:(σ'.drop h)[j-h]? = σ'[j]?:=by rw[Zk];congr 1;lia
      have e2:((Qn h none++σ:St).drop h)[j-h]? = (Qn h none++σ:St)[j]?:=by rw[Zk];congr 1;lia
      rw[<- e1,hd,e2];exact e
    .exact(I'.pin (b,o) (Q8 _ (Q8 _ (zei hb e)))).1
    .obtain⟨o,e,_⟩:=T.obj _ _ st7 b hb;exact(I'.pin (b,o) (Q8 _ (Q8 _ (zei hb e)))).2.1
   have hg':=hg s3.heap.objs.size s3 4e3 fp;have ht':=ht s3.heap.objs.size s3 4e3 fp;have he':=he s3.heap.objs.size s3 4e3 fp;rw[hX] at hg' ht' he';have hl0:h<=(Qn h none++σ:St).length:=by simp
   have a1:=hg' _ s7 _ H7 x u _ I7' r7 (ho x _ H7 _ hl0 (step x H7 y7));rw[hA,eP,eW,eE] at a1;refine thn a1 λ_ s8 zz=>?_;obtain⟨σ8,H8,I8,q8,l8,d8⟩:=zz;have a2:=ht' _ s8 σ8 H8 _ I8 q8;rw[hA,eP,eW,eE] at a2;refine thn a2 λc s9 zz=>?_;obtain⟨H9,I9,q9⟩:=zz
   cases c with
   | false=>
     obtain⟨m',hm',w'⟩:=q9;obtain⟨b1,b2,b3⟩:=back I9 l8 d8;exact⟨m',hm',i+1,ys,H9,b1,b2,b3,w'⟩
   | true=>
     have a3:=he' _ s9 σ8 H9 _ I9 q9;rw[hA,eP,eW,eE] at a3;refine thn a3 λyv s10 zz=>?_;obtain⟨y,H10,I10,r10,hD10,hz10,m',hm',w'⟩:=zz;have a4:=znf (X:=X') _ s10 σ8 H10 20.6 [y] 20.6 [yv] (λ_ Hz=>Hz=upd H10 s2.heap.objs.size (.lst (ys ++ [y]))) I10 rfl (.cons r10 .nil) ⟨_,ys,y,rfl,rfl,hD10,hz10,rfl⟩;rw[hA,eP,eW,eE] at a4;refine thn a4 λ_ s11 zz=>?_;obtain⟨_,H11,I11,_,e11⟩:=zz;subst e11;obtain⟨b1,b2,b3⟩:=back I11 l8 d8;exact⟨m',hm',i+1,ys ++ [y],_,b1,b2,b3,w'⟩
 have end_:=codeAny_compStart_list (prog:=X.prog) (w:=X.w) (A:=X.A) (R:=compPost 0.5 X.A X.xe use R 20.6 s3.heap.objs.size) (elt:=elt) (target:=tg) (iter:=iter) (ifs:=ifs) (rest:=[]) (scope:=scope) (pos:=pos) (it:=.ref it) (acc:=.ref s2.heap.objs.size) (env:=X'.env)
  (loop _ I4 st4) (T.self _ 0 _ _ _ st4 (loop _ I4 st4))
 have hE:X'.env=compEnvC scope (Ts (s3.heap.objs.size+1) scope.names 13.3) s3.heap.objs.size X.env:=by rw[<- hX];rfl
 rw[hE] at end_;exact end_
theorem zmm{iter:Expr}{scope:Tu}{wi:TI}(h:Nat)(S:8.2)(hc:6e4)(hi:PI X tg iter wi)
 (hg:∀C s H ex,PG 2e4 tg g) (ho:OwnG h g) (ht:∀C s H ex,PF 2e4 ifs tf) (he:∀C s H ex,PE 2e4 elt te)
 (hs:∀x,Th iter X.env x=pure x:=by intro _;rfl) :
 PE X 0e3 (zeq h wi g tf te):=by
 intro pins s σ H Q I hq;rw[eval_ListComp];exact zni h S hc hi hg ho ht he hs I hq λD H3 H5 s3 s6 m6 fl I3 bk hC hm qn=>⟨m6,hm,λh7 hs7=>⟨.ref D,H5,bk h7 hs7,rfl,qn⟩⟩
theorem zhd{iter:Expr}{scope:Tu}{spos:Pos}{wi:TI}{n0:Nat}(hN0:X.N.Nodup)(hi0:X.N[n0]? = some x0)(hx0:X.env.scope.names.lookup x0=some .local)(hsw:GV 0e3 (some (.Name x0 py)) spos.line X.env=pure true)(h:Nat)(S:8.2)(hc:6e4)(hi:PI X tg iter wi)
 (hg:∀C s H ex,PG 2e4 tg g) (ho:OwnG h g) (ht:∀C s H ex,PF 2e4 ifs tf) (he:∀C s H ex,PE 2e4 elt te)
 (hs:∀x,Th iter X.env x=pure x:=by intro _;rfl) :
 PS X (.Assign [.Name x0 py] 0e3 spos) (tAsg (zeq h wi g tf te) (zau n0)):=by
 intro pins s σ H DD I hq;rw[exec_Assign_Name_used _ _ _ _ hsw];refine GD (M7 (GD ?_));show wpAny _ X.A (do let _ <- comprehension 0e3 scope X.env _ (Nw []) false (eval iter X.env) (some (MS (.Name x0 py) X.env))) _ _ s;refine GD (GQ (zni (use:=some (MS (.Name x0 py) X.env)) (R:=λ_ s'=>SP X pins DD .next s') h S hc hi hg ho ht he hs I hq λD H3 H5 s3 s6 m6 fl I3 bk hC hm qn=>?_) (λ_ s' hq=>GG (GG hq)) λ_ _ e=>e);have J6:Inv X pins σ H5 s6:=bk _ (Heap.SameBut.refl ..);have neL:s3.heap.objs.size≠X.env.locals:=ZM I3.lt
 have neC:∀x c,X.env.cells.lookup x=some c->c≠s3.heap.objs.size:=λx c e=>by
  obtain⟨v,z⟩:=I3.cell x c e;exact Qz z.lt
 show wpAny 0.5 X.A (MS (.Name x0 py) X.env (.ref D)) _ _ s6;refine wpAny_assign_Name (znr (v:=.ref D) J6 hN0 hi0 (.inl hx0) rfl (λs7 I7 zz=>?_) (.inr hx0));obtain⟨a,hsb,ha⟩:=zz
 have hac:s3.heap.objs.size≠a:=by
  rcases ha with rfl|ha
  .exact neL
  .exact ZD (neC _ _ ha)
 refine⟨m6,hm.sameBut hsb hac,λh8 hs8=>⟨_,H5,I7.turned (t':=s7.toks) (it:=s3.heap.objs.size) (λb o hb e=>(hs8.2 b hb).trans e) hC neL (.inr I3.sz) neC (λp hp=>?_),qn⟩⟩;exact Qz (Qs (I3.pin p hp).1)
structure Fly(h:Heap)(e:Addr)(cls:GE)(dx:4.6)(T:4.6):Prop where
 obj:∃oe vs,h.get? e=some oe/\oe.cls=cls/\oe.dict=dx/\oe.data = .fields vs/\1<vs.size/\vs[1]? = some (T.elim .none .ref)
 note:∀t,T=some t->t≠e/\∃oT ts,h.get? t=some oT/\oT.data = .fields ts/\ts[3]? = some .none
structure Flew(fs:3e9)(e:Addr)(T:4.6)(h h':Heap):Prop where
 keep:∀b o,b≠e->T≠some b->b ∉ fs->h.get? b=some o->h'.get? b=some o
 slot:∀b o,b∈fs->h.get? b=some o->∃sl,h'.get? b=some { o with slots:=sl }
section
variable {M:Model}{A:GN}{E:1.7}{s:GH}{base:Heap}{env:Env}{outer:7e5}{L e:Addr}
theorem zmf(o:Obj)(f):(o.mapFields f).dict=o.dict:=by
 obtain⟨c,d,dt,sl⟩:=o;cases dt <;> rfl
theorem zn1{head:GE}{hn:Bool}(hfr:A.frames=some 4e8)(hl:s.heap.FunFrames base 4e8)(hf:env.frame=some L)
 (he:s.heap.get? e=some oe) (hc:oe.cls=cls) (hx:oe.dict=dx) (hd:oe.data = .fields vs) (hz:1<vs.size)
 (q:∀h' t,Fly h' e cls dx (some t)->s.heap.objs.size<=t->Flew (frs 4e8) e none s.heap h'->h'.FunFrames base 4e8->Q () 3.9) :
 wpAny M A (do let a <- frameOf env;let pl <- entryPlaceOf L hn;let b <- Us head a .none (rawInt L) .none pl;setField (.ref e) 1 b) (λ_ s'=>wpAny M A (setFlight (.ref e) none) Q E s') E s:=by
 have ne:e ∉ frs 4e8:=λm=>by
  obtain⟨_,o,ho,nf⟩:=hl.mem m;rw[he] at ho;cases ho;exact nf vs hd
 refine GD (wpAny_frameOf_fun hfr hl hf λh1 s1=>?_);refine GD (wpAny_entryPlaceOf λpl hp=>?_);unfold Us newFields;refine GD (GP ?_ (hp.sizeOk5 _ _ _ _ _));generalize ho:({ cls:=.type "traceback",dict:=none,data:=.fields ([head,.ref L,.none,rawInt L,.none]++(if pl.isEmpty then Qn 6 ZB else pl)).toArray }:Obj)=nt;have z3:3<([head,.ref L,.none,rawInt L,.none]++(if pl.isEmpty then Qn 6 ZB else pl)).toArray.size:=by simp only[Qu,Qk,Qq] <;> lia
 generalize hts:([head,.ref L,.none,rawInt L,.none]++(if pl.isEmpty then Qn 6 ZB else pl)).toArray=ts at ho z3;have dn:nt.data = .fields ts:=by rw[<- ho]
 have fn:nt.isFreed=false:=Jm dn;have e1:h1.get? e=some oe:=(s1.2.1 e ne).trans he;have e2:=Qb nt e1;refine TY e2 hd hz ?_;have te:h1.objs.size≠e:=ZM (Qs e1);have d3:=Jk hd 19.6;have e3:=Z5 (Jx 19.6) e2 (Jm d3);have t3:=(QW (h1.push nt) (Jx 19.6) (ZD te)).trans (Qp h1 fn);unfold setFlight;refine GD (Tq e3 d3 (x:=.ref h1.objs.size) (by simp[hz]) ?_);rw[N3 0.3];have d4:=Jk dn 26.3;have t4:=Z5 (Jx 26.3) t3 (Jm d4)
 have kp:∀b o,b≠e->h1.get? b=some o->(((h1.push nt).update e (Jx 19.6)).update h1.objs.size (Jx 26.3)).get? b=some o:=λb o nb hb=>by
  rw[QW _ _ (ZM (Qs hb)),QW _ _ (ZD nb)];exact Qb nt hb
 refine TY t3 dn z3 (q _ h1.objs.size ⟨⟨_,_,(QW _ _ te).trans e3,(UM _ _).trans hc,(zmf _ _).trans hx,d3,by simpa using hz,by simp[hz]⟩,λt et=>?_⟩ ?_ ⟨λb o nb _ nf hb=>?_,λb o mb hb=>?_⟩ ?_)
 .cases et;exact⟨te,_,_,t4,d4,by simp[z3]⟩
 .exact Y5 s1.1.symm
 .exact kp b o nb ((s1.2.1 b nf).trans hb)
 .obtain⟨sl,h2⟩:=s1.2.2 b o hb;exact⟨sl,kp b _ (λz=>ne (z ▸ mb)) h2⟩
 .refine hl.of_keeps λb o hb nf=>?_;obtain⟨sl,h2⟩:=s1.2.2 b o hb;exact⟨_,kp b _ (λz=>by rw[z,he] at hb;cases hb;exact nf vs hd) h2,rfl⟩
theorem z0k(hfr:A.frames=some 4e8)(hl:s.heap.FunFrames base 4e8)(hf:env.frame=some L)(hb:∀t,T=some t->base.get? t=none)
 (F:Fly s.heap e cls dx T) (q:∀h' t,Fly h' e cls dx (some t)->s.heap.objs.size<=t->Flew (frs 4e8) e T s.heap h'->h'.FunFrames base 4e8->Q () 3.9) :
 wpAny M A (noteFrame (.ref e) env) (λ_ s'=>wpAny M A (setFlight (.ref e) none) Q E s') E s:=by
 obtain⟨⟨oe,vs,he,hc,hx,hd,hz,h1⟩,nt⟩:=F;unfold noteFrame;simp only[hf];refine GD (Tq he hd h1 ?_)
 cases T with
 | none=>
   rw[N4 0.4];exact zn1 hfr hl hf he hc hx hd hz q
 | some t=>
   obtain⟨tne,oT,ts,ht,dt,t3⟩:=nt t rfl;have z3:3<ts.size:=(JY.mp t3).1;rw[N3 (show((some t).elim ZB QP != ZB)=true by simp)];refine GD (Tq ht dt t3 ?_);rw[N4 (by simp[rawInt])];refine GD (TY ht dt z3 ?_);have ot:∀b,b≠t->(s.heap.update t (Jx (·.setIfInBounds 3 ZB))).get? b=s.heap.get? b:=λb nb=>QW _ _ (ZD nb)
   have rcd:∀b o,s.heap.get? b=some o->(∀vs,o.data≠.fields vs)->b≠t:=λb o gb nf z=>by
    rw[z,ht] at gb;cases gb;exact nf ts dt
   have nfr:t ∉ frs 4e8:=λm=>by
    obtain⟨_,o,go,nf⟩:=hl.mem m;rw[ht] at go;cases go;exact nf ts dt
   refine zn1 (s:={ s with heap:=s.heap.update t (Jx (·.setIfInBounds 3 ZB)) }) hfr (hl.of_keeps λb o gb nf=>⟨o,(ot b (rcd b o gb nf)).trans gb,rfl⟩) hf ((ot e (ZD tne)).trans he) hc hx hd hz λh' u F' nu W fr=>?_;exact q h' u F' (by rw[<- Heap.size_after_update s.heap t];exact nu) ⟨λb o nb nT nf gb=>W.keep b o nb 0.3 nf ((ot b λz=>nT (by rw[z])).trans gb),λb o mb gb=>W.slot b o mb ((ot b λz=>nfr (z ▸ mb)).trans gb)⟩ fr
theorem zx2(hfr:A.frames=some 4e8)(hl:s.heap.FunFrames base 4e8)(hf:env.frame=some L)(hb:∀t,T=some t->base.get? t=none)
 (F:Fly s.heap e cls dx T) (q:∀h' t,Fly h' e cls dx (some t)->s.heap.objs.size<=t->Flew (frs 4e8) e T s.heap h'->h'.FunFrames base 4e8->Q () 3.9) :
 wpAny M A (leaving env (.ref e)) Q E s:=GD (z0k hfr hl hf hb F q)
end
section
variable {P:GJ}{w:GL}{H:Hp}{h h':Heap}{fs:3e9}{e:Addr}{T:4.6}
theorem Flew.hok(W:Flew fs e T h h')(hok:8e3)(he:H e=none)(hT:∀t,T=some t->H t=none)(hf:∀b∈fs,H b=none):HOk P w H h':=λa o q=>
 (hok a o q).stay (λb u hb g=>by
  have nb:H b≠none:=by
   rcases hb with z|z
   .rw[z,q];simp
   .rw[z];simp
  exact W.keep b u (λz=>nb (by rw[z];exact he)) (λz=>nb (hT b z)) (λz=>nb (hf b z)) g) 8e6 λ_ _ z=>z
end
def CX1(P:GJ)(w:GL):CXT:=λouter H s E e s'=>∃(a C dx:Addr) (T:4.6) (H':Hp),e = .ref a/\s'.os=s.os/\Mu s'.gens/\Un (frs outer) [] H H' s.heap s'.heap/\HOk P w H' s'.heap /\
 Fly s'.heap a 3.6 (some dx) T/\H' a=none/\s.heap.objs.size<=a/\(∀t,T=some t->H' t=none/\s.heap.objs.size<=t)/\E 3.6 (some dx) H'
structure Bdy(P:GJ)(w:GL)(X:Cx)(E:XK):Prop where
 prog:X.prog=P
 wld:X.w=w
 stk:X.stack=X.env::X.outer
 fr:X.env.frame=some X.env.locals
 ex:X.ex = []
 xe:X.xe=λe s'=>wpAny 2.5 X.A (leaving X.env e) (λ_ s''=>CX1 P w X.outer X.H₀ X.s₀ E e s'') (λe' s''=>CX1 P w X.outer X.H₀ X.s₀ E e' s'') s'
section
variable {P:GJ}{w:GL}{X:Cx}{E:XK}{pins:1.1}{σ:St}{H:Hp}{s:GH}{a C dx:Addr}{T:4.6}
theorem Bdy.out(B:Bdy P w X E)(I:0.6)(F:Fly s.heap a 3.6 (some dx) T)(na:H a=none)(fa:X.s₀.heap.objs.size<=a)(hT:∀t,T=some t->H t=none/\X.s₀.heap.objs.size<=t)(q:E 3.6 (some dx) H):X.xe 3.0 s:=by
 have fr0:X.A.frames=some 14.7:=by rw[I.ok.frames,B.stk]
 have st0:s.heap.FunFrames X.base 14.7:=by have:=I.stack;rwa [B.stk] at this
 have bT:∀t,T=some t->X.base.get? t=none:=λt z=>by
  cases g:X.base.get? t with
  | none=>rfl
  | some o=>exact absurd (Qs (I.ok.bs t o g).1) (Yr.mpr (hT t z).2)
 rw[B.xe];refine zx2 fr0 st0 B.fr bT F λh' t F' nt W fr=>?_;have frn:∀b∈frs 14.7,H b=none:=by have:=I.stkFree;rwa [B.stk] at this
 have hok:=B.prog ▸ B.wld ▸ W.hok I.hok na (λt z=>(hT t z).1) frn;have bu:=I.base;rw[B.ex] at bu
 have s0:∀b o,X.s₀.heap.get? b=some o->b≠a/\T≠some b/\b≠X.env.locals:=λb o g=>by
  refine⟨λz=>?_,λz=>?_,λz=>?_⟩
  .rw[z] at g;exact absurd (Qs g) (Yr.mpr fa)
  .exact absurd (Qs g) (Yr.mpr (hT b z).2)
  .rw[z] at g;exact absurd (QE (Qs g) I.ok.above) (Zi _)
 have nf:∀b,b≠X.env.locals->b ∉ X.fs->b ∉ frs 14.7:=λb h1 h2 m=>by
  have m2:b∈X.env.locals::X.fs:=by
   have:frs 14.7=X.env.locals::X.fs:=by
    show Gn _ 14.7=_;rw[J0,B.fr];rfl
   rwa [this] at m
  rcases Q2.mp m2 with z|z
  .exact h1 z
  .exact h2 z
 have mf:∀b,b∈X.fs->b∈frs 14.7:=λb m=>by
  show b∈Gn _ 14.7;rw[J0,B.fr];exact Qm _ m
 have un:Un (frs X.outer) [] X.H₀ H X.s₀.heap h':={
  keep:=λb o g n hb hx=>let ⟨z1,z2,z3⟩:=s0 b o g;W.keep b o z1 z2 (nf b z3 hb) (bu.keep b o g n hb hx)
  slot:=λb o g n hb hx=>by
   obtain⟨sl,g1⟩:=bu.slot b o g n hb hx;obtain⟨sl2,g2⟩:=W.slot b _ (mf b hb) g1;exact⟨sl2,g2⟩
  free:=bu.free
  there:=λb o g hx=>by
   obtain⟨o1,g1⟩:=bu.there b o g hx;obtain⟨z1,z2,z3⟩:=s0 b o g
   by_cases hb:b∈X.fs
   .obtain⟨sl2,g2⟩:=W.slot b _ (mf b hb) g1;exact⟨_,g2⟩
   .exact⟨o1,W.keep b o1 z1 z2 (nf b z3 hb) g1⟩
  tups:=bu.tups
  frzs:=bu.frzs
  tbls:=bu.tbls }
 refine⟨a,C,dx,some t,H,rfl,I.os,I.bare,un,hok,F',na,fa,λu z=>?_,q⟩;cases z;exact⟨I.hok.fresh nt,QF I.sz nt⟩
theorem Bdy.pass(B:Bdy P w X E):zkz (CX1 P w) X E:=λpins σ H s e s' I h=>by
 obtain⟨a,C,dx,T,H',rfl,os,bare,un,hok,F,na,fa,hT,q⟩:=h;have I':Inv X pins σ H' s':=I.call' os un (B.prog.symm ▸ B.wld.symm ▸ hok) bare (λb z=>absurd z 0.3);exact B.out I' F na (QF I.sz fa) (λt z=>⟨(hT t z).1,QF I.sz (hT t z).2⟩) q
end
end L3
namespace L3
open PySem PySem.Spec PySem.Calls
open PyProof.Rows hiding St
open L2
theorem zt5{K:Qa}{h:Heap}{A1:Addr}{c0:GE}{dd od:4.6}{cd:ClassData}{sl osl:3e0}{es:Array TL}{ep:Nat}{oc:GE}{bmB tl:2.8}(x:K.In h)
 (hA:K.lookup A1=some ⟨c0,dd,.cls cd,sl⟩) (hN:K.lookup cd.ns=some ⟨oc,od,.dict es ep,osl⟩) (sk:StrKeys es) (ni:nsFind es "__init__" = none) (T:OwnTail h bmB tl):OwnTail h bmB (.ref A1::tl) :=
 .own (x _ _ hA) ⟨_,es,ep,x _ _ hN,rfl,sk,λ_=>rfl⟩ ni T
abbrev zel(us:2.8):Obj:={ cls:=.type "tuple",data:=.seq us.toArray }
abbrev zde(C t:Addr):Obj:={ cls:=.ref C,data:=.fields #[.ref t,.none,.none,.none,.bool false,.none] }
section
variable {prog:GJ}{w:GL}{A:GN}{K:Qa}{C N f:Addr}{R:Nz->GH->Prop}{s:GH}{us:2.8}
variable {nm q:Str}{bs bm bmB:2.8}{sn:2.4}{sub:2.8}{ab:Bool}{col:Option Bool}{dd:4.6}{k0 k1 k2 k3 k5:Option GE}{B newId initId:String}
theorem yb5(X:K.In s.heap)(hC:K.lookup C=some 23.1)(T:OwnTail s.heap bmB bm)(F:ExcBaseFacts B newId initId bmB)
 (hi:Ze K 3.6 "__init__" = some (some 9.1)) (hf:Uh K 9.1=some (.type "function")) (hu:us.length<=sizeLine)
 (h:Ma 1.3 (A.under (.builtin "type.__call__" ⟨.ref C::us,[]⟩)) (.call 9.1 ⟨.ref 3.3::us,[]⟩) (PySem.W.InitBack 3.3 R)
  { s with heap:=(s.heap.push (zel us)).push 20.5 }) :
 Ma 1.3 A (.call 3.6 2e5) R s:=by
 obtain⟨hh,g,d,tk,os⟩:=s;have gC:=X _ _ hC;have t1:=tc_lookup;have t2:=tc_bind 3.6;have tT:(⟨hh,g,d,tk,os⟩:GH).TypeIs 3.6 "type" := ⟨_,gC,rfl⟩;refine MO ?_;show wpAny _ _ (callAny 3.6 _) _ _ _
 repeat (any_goals (first|assumption|with_reducible refine Mg gC ?_|wp_step))
 refine 4.1;refine codeAny_call_builtin_at (Vl _ 0.2) entry_typeCall (wpAny_check_type_call_sub gC ?_)
 repeat (first|with_reducible refine Mg gC ?_|with_reducible refine wpAny_madeBy_exc gC ?_|wp_step)
 refine codeAny_call_builtin_code (Vl _ F.quiet) (wpAny_check_new_subT F T gC (codeAny_exc_new_subT F T gC ?_ hu));show wpAny _ _ _ _ _ _;have kp:∀b o,hh.get? b=some o->((hh.push (zel us)).push 18.0).get? b=some o:=λb o z=>Qb _ (Qb _ z);have gC1:=kp _ _ gC;have X1:=X.keeps kp;have gx:((hh.push (zel us)).push 18.0).get? (hh.objs.size+1)=some 18.0:=by heap_get
 have cC:(QP C::bm).contains 3.6=true:=by simp
 have tx:JP 1.3 ((hh.push (zel us)).push 18.0) (typeOf (.ref (hh.objs.size+1))) 3.6:=(VC gx).andThen .now
 have sx:JP 1.3 ((hh.push (zel us)).push 18.0) (isSubtype 3.6 3.6) true:=λA1 Q1 E1 s1 k1 z1=>by
  obtain⟨h1,g1,d1,u1,o1⟩:=s1;refine wpAny_isSubtype_exc (k1 _ _ gC1) ?_;rw[cC];exact z1
 have ix:=YS (M:=model prog w) X1 hi;have bx:=PySem.W.bind_fn (M:=model prog w) X1 (.ref (hh.objs.size+1)) hf;have nx:JP 1.3 ((hh.push (zel us)).push 18.0) (isInstance (.ref (hh.objs.size+1)) 3.6) true:=tx.andThen sx;refine GD (nx.here ?_);rw[N4 0.4];unfold callSpecial? specialOf;refine GD (GU (GD (GD (tx.here ?_))));refine ix.here ?_;refine GU (GD (bx.here ?_));refine GD (Mj (TH h λr s' z=>?_));rcases r with e|(v|_|_|_)
 .exact z
 .exact z.elim
 .exact z.elim
 .exact z.elim
 .obtain⟨rfl,z⟩:=z;exact GG (GG z)
end
end L3
namespace L3
open PySem PySem.Spec PySem.Calls Builtin Builtin.ObjectAttr
open PyProof.Rows hiding St
open L2
structure XCls(K:Qa)(C:Addr)(f:Str):Prop where
 cls:∃cd,Gv K C=some cd/\cd.hasDict=true/\cd.mro.isEmpty=false/\cd.mro.contains (.type "object")=true/\∀v,refuseLoop v "__setattr__" cd.mro=pure ()
 sa:Ze K 3.6 "__setattr__" = some (some 24.1)
 no:Ze K 3.6 f=some none
section
variable {prog:GJ}{w:GL}{A:GN}{E:1.7}{K:Qa}{C x:Addr}{s:GH}{f:Str}{v:GE}{o:Obj}{vs:10.3}{Q:Unit->GH->Prop}{R:Nz->GH->Prop}
theorem yc8{tk:Tok}(X:K.In s.heap)(c:XCls K C f)(hx:s.heap.get? x=some o)(hc:o.cls = .ref C)
 (h:wpAny 1.3 A.in1 (storeInOwnDict (.ref x) 3.6 (.str f tk) f v false)
  (λfin s'=>match fin with | .done z=>R (.ok z) s' | .again c'=>c'.quiet=true/\Ma 1.3 A c' R s') (λe s'=>R (.error e) s') s) :
 Ma 1.3 A (.call 24.1 ⟨[.ref x,.str f tk,v],[]⟩) R s:=by
 obtain⟨⟨cd,c1,c2,c3,c4,c5⟩,sa,no⟩:=c;have S:=Ui
 have ty:JP 1.3 s.heap (typeOf (.ref x)) 3.6:=by
  obtain⟨oc,od,dt,sl⟩:=o;cases hc;exact(VC hx).andThen .now
 have sb:JP 1.3 s.heap (isInstance (.ref x) (.type "object")) true:=ty.andThen (PySem.W.looks_mroIn X (by unfold ZW;rw[c1,UW,N4 (by rw[c3];decide),c4]));refine Mo S.slot.plain S.entry (@PySem.W.check_slot 1.3 _ _ s "object.__setattr__" "object" "__setattr__" (.ref x) [.str f tk,v] [] _ S.kind S.split sb (S.args (.ref x) (.str f tk) v) ?_);have mr:JP 1.3 s.heap (mroOf 3.6) cd.mro:=(Vb X c1).andThen .now;rw[PySem.W.osa_eq,refuse_eq];refine GD (GD (ty.here (GD (mr.here ?_))));rw[c5];refine GG (GD (ty.here (GD ((YS X no).here (GD 0e6)))));exact h
theorem z3l(X:K.In s.heap)(c:XCls K C f)(hx:s.heap.get? x=some o)(hc:o.cls = .ref C)
 (h:wpAny 1.3 A.in1 (storeInOwnDict (.ref x) 3.6 (.str f s.toks) f v false) (λfin s'=>match fin with | .done (.ret _)=>Q () s'|_=>False) E 5e9) :
 wpAny 1.3 A (Nx (.ref x) f v) Q E s:=by
 have ty:JP 1.3 s.heap (typeOf (.ref x)) 3.6:=by
  obtain⟨oc,od,dt,sl⟩:=o;cases hc;exact(VC hx).andThen .now
 unfold Nx callSpecial? specialOf;refine GD (wpAny_mkText (GD (GD (GD (Ys (s:=5e9) ty ?_)))));refine Ys (s:=5e9) (YS X c.sa) ?_;refine GU ?_;rw[Ui.slot.bind];refine GD (GG (GD (Mj (yc8 (s:=5e9) X c hx hc (GQ h (λfin s' z=>?_) λe s' z=>z)))));rcases fin with (_|_|_|u)|c'
 .exact z.elim
 .exact z.elim
 .exact z.elim
 .exact GG (GG z)
 .exact z.elim
theorem yan(X:K.In s.heap)(c:XCls K C f)(hx:s.heap.get? x=some o)(hc:o.cls = .ref C)(hd:o.data = .fields vs)(hn:o.dict=none)
 (h:∀h' d tk,h'.get? x=some { o with dict:=some d }->h'.Ns1 d (λy=>if y=f then some v else none)->d=s.heap.objs.size->(∀b u,b≠x->s.heap.get? b=some u->h'.get? b=some u)->Q () 3.5) :
 wpAny 1.3 A (Nx (.ref x) f v) Q E s:=by
 refine z3l X c hx hc ?_;obtain⟨⟨cd,c1,c2,c3,c4,c5⟩,sa,no⟩:=c;obtain⟨hh,g,d,tk,os⟩:=s;obtain⟨oc,od,dt,sl⟩:=o;cases hc;cases hd;cases hn;have gx:(hh.push JW).get? x=some ⟨.ref C,none,.fields vs,sl⟩:=Qb _ hx;have nx:x≠hh.objs.size:=Qz (Qs hx);unfold storeInOwnDict ownDictForStores instanceDict;refine GD (GG (GD (GD (wpAny_loadPart hx (GD (Ys (s:=⟨hh,g,d,tk+1,os⟩) (Vb X c1) ?_))))));rw[c2];refine GD (Nt ?_);refine GD (wpAny_update gx ?_);refine GG ?_;have g2:((hh.push JW).update x λo=>{ cls:=o.cls,dict:=some hh.objs.size,data:=o.data,slots:=o.slots }).get? hh.objs.size=some JW:=(QW _ _ nx).trans (Heap.get?_push_at rfl rfl);have g3:((hh.push JW).update x λo=>{ cls:=o.cls,dict:=some hh.objs.size,data:=o.data,slots:=o.slots }).get? x=some ⟨.ref C,some hh.objs.size,.fields vs,sl⟩:=Z5 _ gx rfl;have n2:((hh.push JW).update x λo=>{ cls:=o.cls,dict:=some hh.objs.size,data:=o.data,slots:=o.slots }).Ns hh.objs.size (λ_=>none):=⟨_,#[],_,g2,rfl,λe he=>absurd he 0.3,λ_=>rfl⟩;show wpAny _ _ (storeInDict hh.objs.size (.str f tk) f v) _ _ _;unfold storeInDict newKeyGuard;refine GD (GG (GD (wpAny_nsSet1 (Heap.Ns1.of_empty n2) λh' m1 sb=>?_)));obtain⟨oD,eD,pD,hoD,hdD,hcD⟩:=m1.count (GC f v Within.nil);refine GD (wpAny_lookBehind hoD (by rw[hdD];exact pastItsLine_dict (QF hcD (by rw[Qq,Jq,GK];lia))) 0e6);refine h h' hh.objs.size _ ((sb.2 x nx).trans g3) m1 rfl λb u nb hb=>?_;exact(sb.2 b (Qz (Qs hb))).trans ((QW _ _ (ZD nb)).trans (Qb _ hb))
theorem ycu(X:K.In s.heap)(c:XCls K C f)(hx:s.heap.get? x=some o)(hc:o.cls = .ref C)(hd:o.data = .fields vs)(hn:o.dict=some dx)(m:s.heap.Ns1 dx mA)(hw:Within mA ns)(hz:ns.length<=1000)
 (h:∀h' tk,h'.Ns1 dx (λy=>if y=f then some v else mA y)->(∀b u,b≠dx->s.heap.get? b=some u->h'.get? b=some u)->Q () 3.5) :
 wpAny 1.3 A (Nx (.ref x) f v) Q E s:=by
 refine z3l X c hx hc ?_;obtain⟨⟨cd,c1,c2,c3,c4,c5⟩,sa,no⟩:=c;obtain⟨hh,g,d,tk,os⟩:=s;obtain⟨oc,od,dt,sl⟩:=o;cases hc;cases hd;cases hn;unfold storeInOwnDict ownDictForStores instanceDict;refine GD (GG (GD (GD (wpAny_loadPart hx (GD (Ys (s:=⟨hh,g,d,tk+1,os⟩) (Vb X c1) ?_))))));rw[c2];refine GG (a:=some dx) ?_;show wpAny _ _ (storeInDict dx (.str f tk) f v) _ _ _;unfold storeInDict newKeyGuard;refine GD (GG (GD (wpAny_nsSet1 m λh' m1 sb=>?_)));obtain⟨oD,eD,pD,hoD,hdD,hcD⟩:=m1.count (GC f v hw);refine GD (wpAny_lookBehind hoD (by rw[hdD];exact pastItsLine_dict (QF hcD (by rw[Qq,GK];lia))) 0e6);exact h h' _ m1 λb u nb hb=>(sb.2 b nb).trans hb
end
abbrev zo2(C t:Addr)(dx:4.6):Obj:={ cls:=.ref C,dict:=dx,data:=.fields #[.ref t,.none,.none,.none,.bool false,.none] }
def XO(x C:Addr)(dx:4.6):HO:=.ext λh=>∃t:Addr,h.get? x=some (zo2 C t dx)
def MutX:Option HO->Prop
 | some (.ext _)=>True
 | some (.xd _)=>True
 | _=>False
section
variable {X:Cx}{pins:1.1}{σ:St}{H H':Hp}{s:GH}{h':Heap}
theorem Inv.chg{t':Nat}(I:0.6)(S:7.6)(hS:∀b,S b->(H b=none/\s.heap.objs.size<=b)\/MutX (H b))(k:∀b u,¬S b->s.heap.get? b=some u->h'.get? b=some u)(ex:∀b,S b->∃u,h'.get? b=some u)
 (ag:∀b,¬S b->H' b=H b) (new:∀b o,S b->H' b=some o->ObjOk X.prog X.w H' h' b o):Inv X pins σ H' 2e3:=by
 have nS:∀b u,H b=some u->¬MutX (some u)->¬S b:=λb u e n z=>by
  rcases hS b z with q|q
  .rw[q.1] at e;cases e
  .rw[e] at q;exact n q
 have nF:∀b o,s.heap.get? b=some o->H b=none->¬S b:=λb o g n z=>by
  rcases hS b z with q|q
  .exact absurd (Qs g) (Yr.mpr q.2)
  .rw[n] at q;exact q
 refine I.un ⟨λb o g n _ _=>k b o (nF b o g n) g,λb o g n _ _=>⟨o.slots,k b o (nF b o g n) g⟩,λb o g n _=>by rw[ag b (nF b o g n)];exact n,λb o g _=>?_,λb xs q=>?_,λb o u q=>?_,λb ps q=>?_⟩ λb o q=>?_
 .by_cases z:S b
  .exact ex b z
  .exact⟨o,k b o z g⟩
 .rw[ag b (nS b _ q λz=>z)];exact q
 .rw[ag b (nS b _ q λz=>z)];exact q
 .exact⟨#[],by rw[ag b (nS b _ q λz=>z),Array.append_empty];exact q⟩
 .by_cases z:S b
  .exact new b o z q
  .rw[ag b z] at q;refine(I.hok b o q).stay (λc u hc g=>k c u ?_ g) (λc r=>?_) λc xs r=>?_
   .rcases hc with rfl|hc
    .exact z
    .exact nS c _ hc λz=>z
   .rw[ag c (nS c _ r λz=>z)];exact r
   .rw[ag c (nS c _ r λz=>z)];exact r
theorem z2v(e:h'.get? x=some (zo2 C t dx)):ObjOk X.prog X.w H' h' x (XO x C dx) :=
 ⟨⟨t,e⟩,⟨_,e⟩,λh1 h2 ⟨u,g⟩ k=>⟨u,k _ g⟩⟩
theorem XO.at(I:0.6)(e:H x=some (XO x C dx)):∃t:Addr,s.heap.get? x=some (zo2 C t dx):=(I.hok x _ e).1
def z3n(K:Qa)(f:Str)(v y:V)(H:Hp)(Q:Hp->Prop):Prop:=∃x C,v = .ref x/\XCls K C f /\
 ((H x=some (XO x C none)/\∀d,H d=none->d≠x->Q (upd (upd H d (.xd [(f,y)])) x (XO x C (some d)))) \/
  ∃d fs,H x=some (XO x C (some d))/\H d=some (.xd fs)/\fs.length<1000/\Q (upd H d (.xd (putF f y fs))))
theorem zx7(I:0.6)(rv:RelV v uv)(ry:RelV y u)(h:z3n X.K f v y H Qh)
 (q:∀s' H',Inv X pins σ H' s'->Qh H'->Q () s'):wpAny 0.5 A (Nx uv f u) Q E s:=by
 obtain⟨x,C,rfl,c,⟨hx,hq⟩|⟨d,fs,hx,hd,hl,hq⟩⟩:=h
 .obtain rfl:uv=QP x:=rv;obtain⟨t,g⟩:=XO.at I hx;refine yan I.kIn c g rfl rfl rfl λh' d tk g' m ed kp=>?_;have nd:H d=none:=I.hok.fresh (Y5 ed.symm);have dx:d≠x:=λw=>by rw[w,hx] at nd;cases nd
  refine q _ _ ?_ (hq d nd dx);refine Inv.chg I (λb=>b=x\/b=d) (λb hb=>?_) (λb u nb g=>kp b u (λz=>nb (.inl z)) g) (λb hb=>?_) (λb nb=>?_) λb o hb e=>?_
  .rcases hb with rfl|rfl
   .right;rw[hx];exact trivial
   .left;exact⟨nd,Y5 ed.symm⟩
  .rcases hb with rfl|rfl
   .exact⟨_,g'⟩
   .obtain⟨o,_,_,e,_⟩:=m;exact⟨o,e⟩
  .rw[zac (λz=>nb (.inl z)),zac (λz=>nb (.inr z))]
  .rcases hb with rfl|rfl
   .rw[zah] at e;cases e;exact z2v g'
   .rw[zac dx,zah] at e;cases e;refine⟨_,m,λg=>?_⟩;show RelO (Ja g [(f,y)]) (if g=f then some u else none)
    by_cases w:g=f
    .subst w;rw[Zp,N3 rfl];exact ry
    .have hb:(g == f)=false:=beq_eq_false_iff_ne.mpr w;rw[ZE,hb,N4 w];exact trivial
 .obtain rfl:uv=QP x:=rv;obtain⟨t,g⟩:=XO.at I hx;obtain⟨mA,m,rl⟩:=I.hok d _ hd
  have wi:Within mA (fs.map (·.1)):=λg hg=>by
   have:=rl g
   cases l:fs.lookup g with
   | none=>rw[l] at this;cases w:mA g with
     | none=>exact absurd w hg
     | some _=>rw[w] at this;exact this.elim
   | some v=>exact QA.mpr ⟨(g,v),Z2 l,rfl⟩
  refine ycu I.kIn c g rfl rfl rfl m wi (by rw[Qf];lia) λh' tk m' kp=>?_;have dx:d≠x:=λw=>by rw[w,hx] at hd;cases hd
  refine q _ _ ?_ hq;refine Inv.chg I (λb=>b=d) (λb hb=>?_) (λb u nb g=>kp b u nb g) (λb hb=>?_) (λb nb=>zac nb) λb o hb e=>?_
  .subst hb;right;rw[hd];exact trivial
  .subst hb;obtain⟨o,_,_,e,_⟩:=m';exact⟨o,e⟩
  .subst hb;rw[zah] at e;cases e;refine⟨_,m',λg=>?_⟩;show RelO ((putF f y fs).lookup g) (if g=f then some u else mA g);rw[zjo]
   by_cases w:g=f
   .rw[N3 w,N3 w];exact ry
   .rw[N4 w,N4 w];exact rl g
def ydm(K:Qa)(ta tv:TE)(f:Str):TS:=λD σ H=>tv σ H λy H1=>ta σ H1 λv H2=>z3n K f v y H2 λH3=>D.nx σ H3
theorem z5o{value:Expr}{pos':Pos}(ha:PE X o ta)(hv:PE X value tv)(hs:GV value (some (.Attribute o f pos')) pos.line X.env=pure false):PS X (.Assign [.Attribute o f pos'] value pos) (ydm X.K ta tv f):=by
 intro pins s σ H D I h;refine plainObj_wpAny_Assign_Attribute (thn (hv pins s σ H _ I h) λu s1 ⟨y,H1,I1,ry,q⟩=>thn (ha pins s1 σ H1 _ I1 q) λov s2 zz=>?_) hs;obtain⟨x,H2,I2,rx,q2⟩:=zz;exact zx7 I2 rx ry q2 λs3 H3 I3 q3=>⟨σ,_,I3,q3⟩
end
def zgk(K:Qa)(ns:2.4):Sp:=λvs H Q _=>∃x C ys,vs = .ref x::ys/\ys.length=ns.length/\(∀n∈ns,XCls K C n)/\H x=some (XO x C none)/\∀d,H d=none->d≠x->Q .non (upd (upd H d (.xd (ns.zip ys))) x (XO x C (some d)))
theorem zt7{K:Qa}{ns ps:2.4}(h:ps.length=ns.length+1):∀vs H Q E,zgk K ns vs H Q E->vs.length=ps.length:=λvs H Q E ⟨x,C,ys,e,l,_⟩=>by rw[e,Qq,l,h]
structure XMk(K:Qa)(C f:Addr)(ns:2.4):Prop where
 cls:∃(nm q:Str) (N:Addr) (bs bm bmB:2.8) (sn:2.4) (sub:2.8) (ab:Bool) (col:Option Bool) (dd:4.6) (k0 k1 k2 k3 k5:Option GE) (B newId initId:String),
  K.lookup C=some 23.1/\(∀h:Heap,K.In h->OwnTail h bmB bm)/\ExcBaseFacts B newId initId bmB
 init:Ze K 3.6 "__init__" = some (some 9.1)
 fn:Uh K 9.1=some (.type "function")
 kp:Jb K 3.6=true
 fld:∀n∈ns,XCls K C n
section
variable {X:Cx}{pins:1.1}{σ:St}{H:Hp}{s:GH}{k:Nat}{C f:Addr}{fd:TM}{ps ns:2.4}{us:2.8}{vs:5.4}{Q:1.7}
theorem zvd(M:XMk X.K C f ns)(F:FnOk X.prog X.w X.K X.mg X.base CX0 k f fd ps (zgk X.K ns))(hr:Room (k+1) X.A)(hb:Binds X.K fd ps [])(I:0.6)(r:Vals vs us)(hl:vs.length=ns.length)(hz:ns.length<=1000)
 (h:∀s' x d,Inv X pins σ (upd (upd H d 25.1) x (XO x C (some d))) s'->s.heap.objs.size<=x->H x=none->H d=none->d≠x->Q (.ref x) s'):wpAny 0.5 X.A (call 3.6 us) Q X.xe s:=by
 obtain⟨nm,q,N,bs,bm,bmB,sn,sub,ab,col,dd,k0,k1,k2,k3,k5,B,newId,initId,hC,T,EB⟩:=M.cls;have lu:us.length<=sizeLine:=by rw[<- r.length,hl,GK];lia
 have kp:∀b o,s.heap.get? b=some o->((s.heap.push (zel us)).push 20.5).get? b=some o:=λb o z=>Qb _ (Qb _ z);have gx:((s.heap.push (zel us)).push 20.5).get? 3.3=some 20.5:=by heap_get
 have nx:H 3.3=none:=I.hok.fresh (ZG _)
 have I2:Inv X pins σ (upd H 3.3 (XO 3.3 C none)) { s with heap:=(s.heap.push (zel us)).push 20.5,toks:=s.toks } :=
  Inv.chg I (λb=>b=s.heap.objs.size+1) (λb hb=>.inl (by subst hb;exact⟨nx,ZG _⟩)) (λb u _ g=>kp b u g) (λb hb=>by subst hb;exact⟨_,gx⟩) (λb nb=>zac nb) λb o hb e=>by
   subst hb;rw[zah] at e;cases e;exact z2v gx
 have r2:Vals (V.ref 3.3::vs) (QP 3.3::us):=.cons rfl r
 have sp:zgk X.K ns (V.ref 3.3::vs) (upd H 3.3 (XO 3.3 C none)) (λv H2=>v = .non/\∃d,H d=none/\d≠s.heap.objs.size+1/\H2=upd (upd H d 25.1) 3.3 (XO 3.3 C (some d))) E0 :=
  ⟨_,C,vs,rfl,hl,M.fld,zah,λd hd dx=>⟨rfl,d,by rw[zac dx] at hd;exact hd,dx,by
   funext b;unfold upd
   by_cases e1:b=s.heap.objs.size+1
   .rw[N3 e1,N3 e1]
   .rw[N4 e1,N4 e1,N4 e1]⟩⟩
 have hl2:(QP 3.3::us).length=ps.length:=by rw[<- r2.length];exact F.len _ _ _ _ sp
 refine Mj (yb5 I.kIn hC (T _ I.kIn) EB M.init M.fn lu (TH (F.run _ X.stack _ _ ⟨QP 3.3::us,[]⟩ (QP 3.3::us) _ _ E0 (hr.make C us []) (I2.env0.make C us []) ?_ r2 sp) λr s' hq=>?_))
 .have:=hb _ (QP 3.3::us) I2.kIn (by rw[Zd];exact hl2);rwa [Zd] at this
 .cases r with
  | error e=>exact hq.elim
  | ok fl=>
    cases fl with
    | ret u=>
      obtain⟨v,H',I3,rv,ev,d,hd,dx,e2⟩:=I2.after hq;subst ev e2;exact⟨rv,h s' _ d I3 (ZG _) nx hd dx⟩
    | next=>exact hq.elim
    | brk=>exact hq.elim
    | cont=>exact hq.elim
def zkd(H:Hp)(x:Addr):Hp:=λb=>if b=x then none else H b
theorem zdb(h:b≠x):zkd H x b=H b:=N4 h
theorem zh6: zkd H x x=none:=N3 rfl
theorem Inv.drop(I:0.6)(m:MutX (H x)):Inv X pins σ (zkd H x) s:=by
 have ne:∀b u,H b=some u->¬MutX (some u)->b≠x:=λb u e n z=>by rw[<- z,e] at m;exact n m
 have dn:∀b,H b=none->zkd H x b=none:=λb e=>by
  by_cases z:b=x
  .rw[z];exact zh6
  .rw[zdb z];exact e
 refine⟨I.ok,I.os,I.bare,⟨I.base.keep,I.base.slot,λb o g n hx=>dn b (I.base.free b o g n hx),I.base.there,λb xs q=>?_,λb o u q=>?_,λb ps q=>?_⟩,I.loc,I.cell,dn _ I.free,λy c e=>dn _ (I.freeC y c e),λp hp=>?_,λb o q=>?_,I.len⟩
 .have:=I.base.tups b xs q;rw[zdb (ne b _ this λz=>z)];exact this
 .have:=I.base.frzs b o u q;rw[zdb (ne b _ this λz=>z)];exact this
 .obtain⟨mo,this⟩:=I.base.tbls b ps q;exact⟨mo,by rw[zdb (ne b _ this λz=>z)];exact this⟩
 .obtain⟨a1,a2,a3⟩:=I.pin p hp;exact⟨a1,dn _ a2,a3⟩
 .have nb:b≠x:=λz=>by rw[z,zh6] at q;cases q
  rw[zdb nb] at q;refine(I.hok b o q).stay (λc u _ g=>g) (λc r=>?_) λc xs r=>?_
  .rw[zdb (ne c _ r λz=>z)];exact r
  .rw[zdb (ne c _ r λz=>z)];exact r
def zwl(C:Addr)(ns:2.4)(E:XK)(t:TA):TS:=λD σ H=>t σ H λvs H1=>vs.length=ns.length/\∀d,H1 d=none->E 3.6 (some d) (upd H1 d 25.1)
section
variable {A:GN}{E:1.7}{x C N:Addr}{M:Model}{env:Env}{ev:Sem GE}
variable {nm q:Str}{bs bm:2.8}{sn:2.4}{sub:2.8}{ab:Bool}{col:Option Bool}{dd:4.6}{k0 k1 k2 k3 k5:Option GE}{newId:String}
theorem zzh{Q:Flow->GH->Prop}(hm:bm.contains 22.1=true)(hh:7.3)
 (h:wpAny M A ev (λv s1=>∃x t dx,v = .ref x/\s1.heap.get? C=some 23.1/\s1.heap.get? x=some (zo2 C t dx)/\E (.ref x) s1) E s) :
 wpAny M A (raiseStmt env (some ev) none) Q E s:=by
 have cB:(QP C::bm).contains 22.1=true:=by rw[U8,hm,Bool.or_true]
 unfold raiseStmt;refine GD (GQ h (λv s1 h1=>?_) λ_ _ z=>z);obtain⟨x,t,dx,rfl,gC,gx,z⟩:=h1;obtain⟨h1,g1,d1,u1,o1⟩:=s1
 repeat (first|with_reducible refine Mg gx ?_|with_reducible refine Mg gC ?_|(with_reducible refine wpAny_isSubtype_exc gC ?_;rw[cB])|wp_step)
 exact wpAny_raiseNew_none hh z
end
theorem zz5{cpos:Pos}(B:Bdy P w X E)(hc:6e4)(M:XMk X.K C f ns)(F:FnOk X.prog X.w X.K X.mg X.base CX0 k f fd ps (zgk X.K ns))(hr:Room (k+1) X.A)(hb:Binds X.K fd ps [])(hz:ns.length<=1000)
 (hg:Gl X x) (hm:X.mg x=some 3.6) (ha:PA X 5e6 t) (hdb:1.5:=by decide) (he:11.5:=by rfl) (hpl:(Tg cpos 22.8).any (·.1)=false:=by rfl) :
 PS X (.Raise (some (.Call (.Name x np) 5e6 [] cpos)) none pos) (zwl C ns E t):=by
 intro pins s σ H D I h;obtain⟨nm,q,N,bs,bm,bmB,sn,sub,ab,col,dd,k0,k1,k2,k3,k5,B1,newId,initId,hC,T,EB⟩:=id M.cls;have hb2:bm.contains 22.1=true:=(T _ I.kIn).hasType EB.hasBase;rw[arm_exec_Raise];refine GD (M7 (zzh (C:=C) (nm:=nm) (q:=q) (N:=N) (bs:=bs) (sn:=sn) (sub:=sub) (ab:=ab) (col:=col) (dd:=dd) (k0:=k0) (k1:=k1) (k2:=k2) (k3:=k3) (k5:=k5) (newId:=newId) hb2 1e3 ?_));refine GD (GW (zdo I hg hm ?_ hdb));refine U5 (h₀:=X.base) I.ok.mod.kin M.kp (thn (ha cpos pins s σ H _ I h) λus s1 ⟨vs,H1,I1,r,hl,hq⟩=>⟨I1.kIn,?_⟩) he hpl;refine zvd M F hr hb I1 r hl hz λs' x d I2 sx nx nd dx=>GD (M7 0e6);obtain⟨t,g⟩:=XO.at I2 zah;refine⟨x,t,some d,rfl,I2.kIn _ _ hC,g,?_⟩
 have eH:zkd (upd (upd H1 d 25.1) x (XO x C (some d))) x=upd H1 d 25.1:=by
  funext b
  by_cases z:b=x
  .rw[z,zh6,zac (ZD dx),nx]
  .rw[zdb z,zac z]
 have I3:=Inv.drop I2 (x:=x) (by rw[zah];exact trivial);rw[eH] at I3;refine B.out I3 (T:=none) ⟨⟨_,_,g,rfl,rfl,rfl,QE (by decide:1<6) (Qi _),rfl⟩,λt z=>nomatch z⟩ (by rw[zac (ZD dx)];exact nx) ?_ (λt z=>nomatch z) (hq d nd);exact QF I1.sz sx
end
section
variable {X:Cx}{pins:1.1}{σ:St}{H:Hp}{s:GH}{a:Addr}
def XR(a C dx:Addr):HO:=.ext λh=>∃o vs,h.get? a=some o/\o.cls = .ref C/\o.dict=some dx/\o.data = .fields vs
end
mutual
inductive Is(K:Qa)(F:7.6)(H:Hp):V->GF->Prop
 | none:Is K F H .non .none
 | bool (b):Is K F H (.bl b) 9e2
 | int (i):Is K F H 1e2 1e2
 | str (x):Is K F H 0e2 0e2
 | list {a xs ds}:F a->H a=some 2.3->IsAll K F H xs ds->Is K F H 3.0 5e5
 | tuple {a xs ds}:SqT K H a xs->IsAll K F H xs ds->Is K F H 3.0 2e1
inductive IsAll(K:Qa)(F:7.6)(H:Hp):List V->List GF->Prop
 | nil:IsAll K F H [] []
 | cons {v vs d ds}:Is K F H v d->IsAll K F H vs ds->IsAll K F H (v::vs) (d::ds)
end
section
variable {K:Qa}{F F':7.6}{H H':Hp}
mutual
theorem Is.to(hL:∀a xs,F a->H a=some 2.3->F' a/\H' a=some 2.3)(hT:∀a xs,SqT K H a xs->SqT K H' a xs):∀{v d},Is K F H v d->Is K F' H' v d
 | _,_,.none=>.none
 | _,_,.bool b=>.bool b
 | _,_,.int i=>.int i
 | _,_,.str x=>.str x
 | _,_,.list f q r=>.list (hL _ _ f q).1 (hL _ _ f q).2 (IsAll.to hL hT r)
 | _,_,.tuple q r=>.tuple (hT _ _ q) (IsAll.to hL hT r)
theorem IsAll.to(hL:∀a xs,F a->H a=some 2.3->F' a/\H' a=some 2.3)(hT:∀a xs,SqT K H a xs->SqT K H' a xs):∀{vs ds},IsAll K F H vs ds->IsAll K F' H' vs ds
 | _,_,.nil=>.nil
 | _,_,.cons r t=>.cons (Is.to hL hT r) (IsAll.to hL hT t)
end
theorem IsAll.length:∀{vs ds},IsAll K F H vs ds->vs.length=ds.length
 | _,_,.nil=>rfl
 | _,_,.cons _ t=>by rw[Qq,Qq,IsAll.length t]
theorem IsAll.get:∀{vs ds} {i:Nat} {d},IsAll K F H vs ds->ds[i]? = some d->∃v,vs[i]? = some v/\Is K F H v d
 | _,_,_,_,.nil,e=>by simp at e
 | _,_,0,_,.cons r _,e=>by simp at e;subst e;exact⟨_,rfl,r⟩
 | _,_,i+1,d,.cons _ t,e=>by
   obtain⟨v,h1,h2⟩:=IsAll.get (i:=i) (d:=d) t 9.0;exact⟨v,by simpa using h1,h2⟩
theorem IsAll.getV:∀{vs ds} {i:Nat} {v},IsAll K F H vs ds->vs[i]? = some v->∃d,ds[i]? = some d/\Is K F H v d
 | _,_,_,_,.nil,e=>by simp at e
 | _,_,0,_,.cons r _,e=>by simp at e;subst e;exact⟨_,rfl,r⟩
 | _,_,i+1,d,.cons _ t,e=>by
   obtain⟨v,h1,h2⟩:=IsAll.getV (i:=i) t 9.0;exact⟨v,by simpa using h1,h2⟩
theorem IsAll.append:∀{vs ds ws es},IsAll K F H vs ds->IsAll K F H ws es->IsAll K F H (vs++ws) (ds++es)
 | _,_,_,_,.nil,s=>s
 | _,_,_,_,.cons r t,s=>.cons r (IsAll.append t s)
theorem IsAll.snoc{vs ds v d}(h:IsAll K F H vs ds)(r:Is K F H v d):IsAll K F H (vs ++ [v]) (ds ++ [d]):=h.append (.cons r .nil)
theorem IsAll.take:∀{vs ds} (n:Nat),IsAll K F H vs ds->IsAll K F H (vs.take n) (ds.take n)
 | _,_,0,_=>.nil
 | _,_,_+1,.nil=>.nil
 | _,_,n+1,.cons r t=>.cons r (IsAll.take n t)
theorem IsAll.drop:∀{vs ds} (n:Nat),IsAll K F H vs ds->IsAll K F H (vs.drop n) (ds.drop n)
 | _,_,0,r=>r
 | _,_,_+1,.nil=>.nil
 | _,_,n+1,.cons _ t=>IsAll.drop n t
end
def SameB(M:7.6)(H H':Hp):Prop:=∀a o,H a=some o->¬M a->H' a=some o
theorem SameB.refl(M:7.6)(H:Hp):SameB M H H:=λ_ _ h _=>h
theorem SameB.trans(a:SameB M H H1)(b:SameB M H1 H2):SameB M H H2:=λc o h n=>b c o (a c o h n) n
theorem SameB.of(s:Same H H'):SameB M H H':=λa o h _=>s a o h
theorem SameB.free(e:SameB M H H')(hm:¬M l)(h:H' l=QZ):H l=QZ:=by
 cases q:H l with
 | none=>rfl
 | some o=>rw[e l o q hm] at h;cases h
def TupStay(H H':Hp):Prop:=∀a u,(∃xs,u=HO.tup xs\/∃o,u=HO.frz o 7e3)->H a=some u->H' a=some u
theorem SqT.stay{K:Qa}{H H':Hp}{a:Addr}{xs:5.4}(e:TupStay H H')(h:SqT K H a xs):SqT K H' a xs:=by
 rcases h with (h|⟨o,h⟩)|h
 .exact .inl (.inl (e _ _ ⟨xs,.inl rfl⟩ h))
 .exact .inl (.inr ⟨o,e _ _ ⟨xs,.inr ⟨o,rfl⟩⟩ h⟩)
 .exact .inr h
structure Ob where
 M:Addr->Prop
 P:Hp->Prop
 v:V
structure Ob.Ok(O:Ob):Prop where
 loc:∀H H',(∀a,O.M a->H' a=H a)->O.P H->O.P H'
 mutb:∀H a o,O.P H->H a=some o->O.M a->(∀xs,o≠.tup xs)/\∀q u,o≠.frz q u
 here:∀H a,O.P H->O.M a->∃o,H a=some o
theorem Ob.Ok.grow{O:Ob}(ok:O.Ok)(H H':Hp)(s:Same H H')(p:O.P H):O.P H':=ok.loc H H' (λa m=>by
 obtain⟨o,e⟩:=ok.here H a p m
 rw[e,s a o e]) p
def Ob.plus(O:Ob)(D:Addr)(u:HO):Ob:=⟨λa=>O.M a\/a=D,λH=>O.P H/\H D=some u,O.v⟩
theorem Ob.Ok.plus{O:Ob}(ok:O.Ok)(D:Addr)(xs:5.4):(O.plus D 2.3).Ok :=
 ⟨λH H' e p=>⟨ok.loc H H' (λa m=>e a (.inl m)) p.1,(e D (.inr rfl)).trans p.2⟩,
  λH a o p e m=>by
   rcases m with m|rfl
   .exact ok.mutb H a o p.1 e m
   .rw[p.2] at e;cases e;exact⟨λ_ h=>(by cases h),λ_ _ h=>(by cases h)⟩,
  λH a p m=>by
   rcases m with m|rfl
   .exact ok.here H a p.1 m
   .exact⟨_,p.2⟩⟩
structure Stp(O:Ob)(H H':Hp):Prop where
 s:SameB O.M H H'
 p:O.P H->O.P H'
 t:TupStay H H'
theorem Stp.refl(O:Ob)(H:Hp):Stp O H H:=⟨.refl _ _,λh=>h,λ_ _ _ h=>h⟩
theorem Stp.trans(a:Stp O H H1)(b:Stp O H1 H2):Stp O H H2:=⟨a.s.trans b.s,λh=>b.p (a.p h),λc u hu h=>b.t c u hu (a.t c u hu h)⟩
theorem Stp.same(ok:O.Ok)(s:Same H H'):Stp O H H':=⟨.of s,ok.grow H H' s,λa u _ h=>s a u h⟩
theorem same_new(h:H p=none)(o:HO):Same H (upd H p o):=λb u q=>by rw[zac (zce q h)];exact q
theorem Stp.new{O:Ob}(ok:O.Ok){H:Hp}{p:Addr}(h:H p=none)(o:HO):Stp O H (upd H p o):=.same ok (same_new h o)
section
variable {K:Qa}{O:Ob}{F F':7.6}{H H':Hp}{v:V}{d:GF}
theorem Is.stp(s:28.3)(hF:∀a,F a->F' a)(hM:∀a,F a->¬O.M a)(h:Is K F H v d):Is K F' H' v d :=
 h.to (λa xs f q=>⟨hF a f,s.s a _ q (hM a f)⟩) λa xs q=>SqT.stay (h:=q) s.t
theorem IsAll.stp(s:28.3)(hF:∀a,F a->F' a)(hM:∀a,F a->¬O.M a)(h:IsAll K F H vs ds):IsAll K F' H' vs ds :=
 h.to (λa xs f q=>⟨hF a f,s.s a _ q (hM a f)⟩) λa xs q=>SqT.stay (h:=q) s.t
theorem Is.weak(h:Is K F H v d)(hF:∀a,F a->F' a):Is K F' H v d:=h.to (λa xs f q=>⟨hF a f,q⟩) λa xs q=>q
theorem IsAll.weak(h:IsAll K F H vs ds)(hF:∀a,F a->F' a):IsAll K F' H vs ds:=h.to (λa xs f q=>⟨hF a f,q⟩) λa xs q=>q
end
mutual
def flat:GF->Bool
 | .none=>true
 | .bool _=>true
 | .int _=>true
 | .str _=>true
 | .tuple ds=>flats ds
 | _=>false
def flats:List GF->Bool
 | []=>true
 | d::ds=>flat d && flats ds
end
theorem flats_iff:∀{ds:9.5},flats ds=true↔∀d∈ds,flat d=true
 | []=>by simp[flats]
 | d::ds=>by rw[flats,Q6,flats_iff];simp
mutual
theorem Is.flat{K:Qa}{F F':7.6}{H H':Hp}(t:TupStay H H'):∀{v d},Is K F H v d->L3.flat d=true->Is K F' H' v d
 | _,_,.none,_=>.none
 | _,_,.bool b,_=>.bool b
 | _,_,.int i,_=>.int i
 | _,_,.str x,_=>.str x
 | _,_,.list _ _ _,h=>by simp[L3.flat] at h
 | _,_,.tuple q r,h=>.tuple (SqT.stay t q) (IsAll.flats t r (by simpa[L3.flat] using h))
theorem IsAll.flats{K:Qa}{F F':7.6}{H H':Hp}(t:TupStay H H'):∀{vs ds},IsAll K F H vs ds->L3.flats ds=true->IsAll K F' H' vs ds
 | _,_,.nil,_=>.nil
 | _,_,.cons r s,h=>by
   rw[L3.flats,Q6] at h;exact .cons (Is.flat t r h.1) (IsAll.flats t s h.2)
end
theorem TupStay.refl(H:Hp):TupStay H H:=λ_ _ _ h=>h
section
variable {X:Cx}{pins:1.1}{σ:St}{H:Hp}{s:GH}{F:7.6}
mutual
theorem Is.reads(I:0.6):∀{v d} {u:GE},Is X.K F H v d->RelV v u->∃as,Reads s.heap u d as
 | _,_,_,.none,r=>by cases r;exact⟨_,.none⟩
 | _,_,_,.bool b,r=>by cases r;exact⟨_,.bool b⟩
 | _,_,_,.int i,r=>by obtain⟨t,rfl⟩:=r;exact⟨_,.int i t⟩
 | _,_,_,.str x,r=>by obtain⟨t,rfl⟩:=r;exact⟨_,.str x t⟩
 | _,_,_,.list f q rs,r=>by
   cases r;obtain⟨its,rv,⟨o,n,e,c,_,dt⟩,_⟩:=I.list (.of q);obtain⟨as,ra⟩:=IsAll.reads I rs rv;exact⟨_,.list e c dt (by simpa using ra)⟩
 | _,_,_,.tuple q rs,r=>by
   cases r;obtain⟨its,rv,⟨o,e,c,n,dt⟩,_⟩:=I.tuple q;obtain⟨as,ra⟩:=IsAll.reads I rs rv;exact⟨_,.tuple e c dt (by simpa using ra)⟩
theorem IsAll.reads(I:0.6):∀{vs ds} {us:2.8},IsAll X.K F H vs ds->Vals vs us->∃as,ReadsAll s.heap us ds as
 | _,_,_,.nil,r=>by cases r;exact⟨_,.nil⟩
 | _,_,_,.cons h t,r=>by
   cases r with
   | cons r1 r2=>
     obtain⟨as,ra⟩:=Is.reads I h r1;obtain⟨bs,rb⟩:=IsAll.reads I t r2;exact⟨_,.cons ra rb⟩
end
end
def IsS(K:Qa)(F:7.6)(H:Hp)(v:V)(n:Nat):Prop:=∃a xs,v = .ref a/\xs.length=n/\((F a/\Rd H a 2.3)\/∀H',SqL K H' a xs)
theorem IsS.to{K:Qa}{F F':7.6}{H H':Hp}{v:V}{n:Nat}(hL:∀a u,F a->H a=some u->F' a/\H' a=some u)(h:IsS K F H v n):IsS K F' H' v n:=by
 obtain⟨a,xs,e,l,⟨f,q|⟨o,q⟩⟩|q⟩:=h
 .exact⟨a,xs,e,l,.inl ⟨(hL a _ f q).1,.inl (hL a _ f q).2⟩⟩
 .exact⟨a,xs,e,l,.inl ⟨(hL a _ f q).1,.inr ⟨o,(hL a _ f q).2⟩⟩⟩
 .exact⟨a,xs,e,l,.inr q⟩
def DkAt(H:Hp)(v:V)(a:Addr)(ks:2.4):Prop:=v = .ref a/\∃kvs,H a=some 5.2/\kvs.map (·.1)=ks.map Zc
theorem DkAt.to(h:DkAt H v a ks)(e:∀u,H a=some u->H' a=some u):DkAt H' v a ks:=let ⟨h1,kvs,h2,h3⟩:=h;⟨h1,kvs,e _ h2,h3⟩
inductive R where
 | o (d:GF)
 | n (ds:9.5)
def R.d:R->GF
 | .o d=>d
 | .n ds=>.list ds
structure Thg where
 R:Qa->(Addr->Prop)->(Addr->Prop)->Hp->V->Prop
 to:∀{K:Qa} {F F' W W':7.6} {H H':Hp} {v:V},(∀a u,F a->H a=some u->F' a/\H' a=some u)->(∀a u,W a->H a=some u->W' a/\H' a=some u)->TupStay H H'->R K F W H v->R K F' W' H' v
inductive DV where
 | im (d:GF)
 | own (ds:9.5)
 | ob
 | scr (n:Nat)
 | dct (ks:2.4)
   | gen (f:Addr->List V->HO) (ds:9.5)
   | rd (f:Addr->List V->HO) (ds:9.5)
   | exc (C:Addr) (ns:2.4) (ds:9.5)
   | thg (T:Thg)
   | thr (T:Thg)
abbrev DSt:=List (Option DV)
abbrev DE:=DSt->2.0->Prop
abbrev DT:=DSt->(Bool->Prop)->Prop
abbrev DA:=DSt->(List GF->Prop)->Prop
def unM(O:Ob):Addr->Prop:=λa=>¬O.M a
def ExAt(F:7.6)(H:Hp)(v:V)(C:Addr)(ns:2.4)(xs:5.4):Prop:=∃a dx,v = .ref a/\F a/\F dx/\H a=some (XR a C dx)/\H dx=some (.xd (ns.zip xs))/\xs.length=ns.length
theorem ExAt.to(hL:∀a u,F a->H a=some u->F' a/\H' a=some u)(h:ExAt F H v C ns xs):ExAt F' H' v C ns xs:=by
 obtain⟨a,dx,e,f1,f2,q1,q2,l⟩:=h;exact⟨a,dx,e,(hL a _ f1 q1).1,(hL dx _ f2 q2).1,(hL a _ f1 q1).2,(hL dx _ f2 q2).2,l⟩
def SeenV(K:Qa)(O:Ob)(H:Hp)(v:V):DV->Prop
 | .im d=>Is K 5.5 H v d
 | .own ds=>Is K 5.5 H v 5e5
 | .ob=>v=O.v
 | .scr n=>IsS K 5.5 H v n
 | .dct ks=>∃a,¬O.M a/\DkAt H v a ks
 | .gen f ds=>∃a xs,v = .ref a/\¬O.M a/\H a=some (f a xs)/\IsAll K 5.5 H xs ds
 | .rd f ds=>∃a xs,v = .ref a/\¬O.M a/\H a=some (f a xs)/\IsAll K 5.5 H xs ds
 | .exc C ns ds=>∃xs,ExAt 5.5 H v C ns xs/\IsAll K 5.5 H xs ds
 | .thg T=>∃W:Addr->Prop,(∀a,W a->¬O.M a/\∃o,H a=some o)/\T.R K 5.5 W H v
 | .thr T=>∃W:Addr->Prop,(∀a,W a->¬O.M a/\∃o,H a=some o)/\T.R K 5.5 W H v
structure Seen(K:Qa)(O:Ob)(H:Hp)(σ:St)(ρ:DSt):Prop where
 ok:O.Ok
 p:O.P H
 at_:∀(i:Nat) r,ρ[i]? = some (some r)->∃v,σ[i]? = some 3e6/\SeenV K O H v r
 len:ρ.length=σ.length
theorem SeenV.stp{K:Qa}{O:Ob}{H H':Hp}{v:V}{r:DV}(s:28.3)(h:SeenV K O H v r):SeenV K O H' v r:=by
 cases r with
 | im d=>exact Is.stp s 3.8 3.8 h
 | own ds=>exact Is.stp s 3.8 3.8 h
 | ob=>exact h
 | scr n=>exact IsS.to (λa u f q=>⟨f,s.s a u q f⟩) h
 | dct ks=>obtain⟨a,n,h⟩:=h;exact⟨a,n,h.to λu q=>s.s a u q n⟩
 | gen f ds=>obtain⟨a,xs,e,n,q,z⟩:=h;exact⟨a,xs,e,n,s.s a _ q n,IsAll.stp s 3.8 3.8 z⟩
 | rd f ds=>obtain⟨a,xs,e,n,q,z⟩:=h;exact⟨a,xs,e,n,s.s a _ q n,IsAll.stp s 3.8 3.8 z⟩
 | exc C ns ds=>obtain⟨xs,e,z⟩:=h;exact⟨xs,e.to λa u f q=>⟨f,s.s a u q f⟩,IsAll.stp s 3.8 3.8 z⟩
 | thg T=>obtain⟨W,hw,z⟩:=h;exact⟨W,λa w=>⟨(hw a w).1,let ⟨o,e⟩:=(hw a w).2;⟨o,s.s a o e (hw a w).1⟩⟩,T.to (λa u f q=>⟨f,s.s a u q f⟩) (λa u w q=>⟨w,s.s a u q (hw a w).1⟩) s.t z⟩
 | thr T=>obtain⟨W,hw,z⟩:=h;exact⟨W,λa w=>⟨(hw a w).1,let ⟨o,e⟩:=(hw a w).2;⟨o,s.s a o e (hw a w).1⟩⟩,T.to (λa u f q=>⟨f,s.s a u q f⟩) (λa u w q=>⟨w,s.s a u q (hw a w).1⟩) s.t z⟩
theorem Seen.stp{K:Qa}{O:Ob}{H H':Hp}{σ:St}{ρ:DSt}(S:Seen K O H σ ρ)(s:28.3):Seen K O H' σ ρ :=
 ⟨S.ok,s.p S.p,λi r e=>let ⟨v,h1,h2⟩:=S.at_ i r e;⟨v,h1,h2.stp s⟩,S.len⟩
def Out(K:Qa)(O:Ob)(H H':Hp)(v:V):R->Prop
 | .o d=>Is K 5.5 H' v d
 | .n ds=>∃a xs,v = .ref a/\H a=none/\H' a=some 2.3/\IsAll K 5.5 H' xs ds
theorem Out.is{K:Qa}{O:Ob}{H H':Hp}{v:V}{r:R}(ok:O.Ok)(p:O.P H)(h:Out K O H H' v r):Is K 5.5 H' v r.d:=by
 cases r with
 | o d=>exact h
 | n ds=>
   obtain⟨a,xs,rfl,hn,e,q⟩:=h;exact .list (λm=>by obtain⟨o,z⟩:=ok.here H a p m;rw[hn] at z;cases z) e q
def ED(K:Qa)(O:Ob)(t:TE)(f:DE):Prop :=
 ∀(σ:St) (H:Hp) (ρ:DSt) (Q:VK) (Qd:9e0),Seen K O H σ ρ->f ρ Qd->26.4->t σ H Q
def TD(K:Qa)(O:Ob)(t:TT)(f:DT):Prop :=
 ∀(σ:St) (H:Hp) (ρ:DSt) (Q:Bool->Hp->Prop) (Qd:Bool->Prop),Seen K O H σ ρ->f ρ Qd->(∀b H',Stp O H H'->Qd b->Q b H')->t σ H Q
def AD(K:Qa)(O:Ob)(t:TA)(f:DA):Prop :=
 ∀(σ:St) (H:Hp) (ρ:DSt) (Q:List V->Hp->Prop) (Qd:20.1),Seen K O H σ ρ->f ρ Qd->(∀vs H' ds,Stp O H H'->IsAll K 5.5 H' vs ds->Qd ds->Q vs H')->t σ H Q
section
variable {K:Qa}{O:Ob}
def cD(d:GF):DE:=λ_ Q=>Q (.o d)
theorem zwd{i:Int}:ED K O (tC 1e2) (cD 1e2):=λσ H ρ Q Qd S h k=>k _ H (.o 1e2) 2.2 (Is.int i) h
theorem z9m: ED K O (tC 0e2) (cD 0e2):=λσ H ρ Q Qd S h k=>k _ H (.o 0e2) 2.2 (Is.str x) h
theorem yc1{b:Bool}:ED K O (tC (.bl b)) (cD 9e2):=λσ H ρ Q Qd S h k=>k _ H (.o 9e2) 2.2 (Is.bool b) h
theorem yaq:ED K O (tC .non) (cD .none):=λσ H ρ Q Qd S h k=>k _ H 22.5 2.2 Is.none h
def seeR:DV->Option GF
 | .im d=>some d
 | .own ds=>some 5e5
 | .ob=>none
 | .scr _=>none
 | .dct _=>none
 | .gen _ _=>none
 | .rd _ _=>none
 | .exc _ _ _=>none
 | .thg _=>none
 | .thr _=>none
def vD(i:Nat):DE:=λρ Q=>∃r d,ρ[i]? = some (some r)/\seeR r=some d/\Q (.o d)
theorem z9y{i:Nat}:ED K O (tVar i) (vD i):=λσ H ρ Q Qd S h k=>by
 obtain⟨r,d,e,e2,h⟩:=h;obtain⟨v,hv,sv⟩:=S.at_ i r e;refine⟨v,hv,k _ H _ 2.2 ?_ h⟩
 cases r with
 | im d'=>cases e2;exact sv
 | own ds=>cases e2;exact sv
 | ob=>cases e2
 | scr n=>cases e2
 | dct ks=>cases e2
 | gen f ds=>cases e2
 | rd f ds=>cases e2
 | exc C ns ds=>cases e2
 | thg T=>cases e2
 | thr T=>cases e2
def OpD(K:Qa)(O:Ob)(r:R2)(f:GF->GF->2.0->Prop):Prop :=
 ∀(H:Hp) (x y:V) (d e:GF) (Q:VK) (Qd:9e0),O.Ok->O.P H->Is K 5.5 H x d->Is K 5.5 H y e->f d e Qd->26.4->r x y H Q
theorem Out.ahead(ok:O.Ok)(p:O.P H)(s1:Stp O H H1)(h:Out K O H1 H2 v r):Out K O H H2 v r:=by
 cases r with
 | o d=>exact h
 | n ds=>
   obtain⟨a,xs,rfl,hn,e,q⟩:=h;have m:¬O.M a:=λm=>by obtain⟨o,z⟩:=ok.here H1 a (s1.p p) m;rw[hn] at z;cases z
   exact⟨a,xs,rfl,s1.s.free m hn,e,q⟩
def opDE(f:GF->GF->2.0->Prop)(fa fb:DE):DE:=λρ Q=>fa ρ λa=>fb ρ λb=>f a.d b.d Q
theorem zoz(hr:OpD K O r f)(ha:ED K O ta fa)(hb:ED K O tb fb):ED K O (tOp r ta tb) (opDE f fa fb):=λσ H ρ Q Qd S h k=>by
 refine ha σ H ρ _ _ S h λv H1 a s1 o1 h1=>?_;refine hb σ H1 ρ _ _ 5e4 h1 λw H2 b s2 o2 h2=>?_;have p1:=s1.p S.p;refine hr H2 v w a.d b.d _ _ S.ok (s2.p p1) 12.1 (o2.is S.ok p1) h2 λz H3 c s3 o3 h3=>?_;exact k z H3 c ((s1.trans s2).trans s3) (Out.ahead S.ok S.p 4.9 o3) h3
def fn2(F:GF->GF->Option R):GF->GF->2.0->Prop:=λa b Q=>∃r,F a b=some r/\Q r
def bD(f:DE):DT:=λρ Q=>f ρ λr=>∃b,r.d = .bool b/\Q b
theorem yct(h:5.1):TD K O (zgw t) (bD f):=λσ H ρ Q Qd S hf k=>by
 refine h σ H ρ _ _ S hf λv H1 r s1 o1 zz=>?_;obtain⟨b,e,q⟩:=zz;have i:=o1.is S.ok S.p;rw[e] at i;cases i;exact⟨b,rfl,k b H1 s1 q⟩
theorem z6z(h:5.1):TD K O (tB t) (bD f):=λσ H ρ Q Qd S hf k=>by
 refine h σ H ρ _ _ S hf λv H1 r s1 o1 zz=>?_;obtain⟨b,e,q⟩:=zz;have i:=o1.is S.ok S.p;rw[e] at i;cases i;exact⟨b,rfl,k b H1 s1 q⟩
def andT(f g:DT):DT:=λρ Q=>f ρ λb=>if b=true then g ρ Q else Q false
def orT(f g:DT):DT:=λρ Q=>f ρ λb=>if b=true then Q true else g ρ Q
def notT(f:DT):DT:=λρ Q=>f ρ λb=>Q (!b)
theorem z9j(h:TD K O t f)(h':TD K O u g):TD K O (tAnd t u) (andT f g):=λσ H ρ Q Qd S hf k=>by
 refine h σ H ρ _ _ S hf λb H1 s1 q=>?_
 cases b with
 | true=>exact h' σ H1 ρ _ _ 5e4 q λc H2 s2 q2=>k c H2 4.9 q2
 | false=>exact k false H1 s1 q
theorem ydo(h:TD K O t f)(h':TD K O u g):TD K O (tOr t u) (orT f g):=λσ H ρ Q Qd S hf k=>by
 refine h σ H ρ _ _ S hf λb H1 s1 q=>?_
 cases b with
 | false=>exact h' σ H1 ρ _ _ 5e4 q λc H2 s2 q2=>k c H2 4.9 q2
 | true=>exact k true H1 s1 q
theorem ya9(h:TD K O t f):TD K O (tNot t) (notT f):=λσ H ρ Q Qd S hf k=>h σ H ρ _ _ S hf λb H1 s1 q=>k (!b) H1 s1 q
def andV(f g:DE):DE:=λρ Q=>f ρ λr=>∃b,r.d = .bool b/\if b=true then g ρ Q else Q (.o (.bool false))
def notV(f:DE):DE:=λρ Q=>f ρ λr=>∃b,r.d = .bool b/\Q (.o (.bool (!b)))
theorem z8h(h:5.1)(h':ED K O u g):ED K O (z3t t u) (andV f g):=λσ H ρ Q Qd S hf k=>by
 refine h σ H ρ _ _ S hf λv H1 r s1 o1 zz=>?_;obtain⟨b,e,q⟩:=zz;have i:=o1.is S.ok S.p;rw[e] at i;cases i;refine⟨b,rfl,?_⟩
 cases b with
 | true=>exact h' σ H1 ρ _ _ 5e4 q λc H2 r s2 o2 q2=>k c H2 r 4.9 4e5 q2
 | false=>exact k (.bl false) H1 (.o (.bool false)) s1 (.bool false) q
theorem z6k(h:5.1):ED K O (zov t) (notV f):=λσ H ρ Q Qd S hf k=>by
 refine h σ H ρ _ _ S hf λv H1 r s1 o1 zz=>?_;obtain⟨b,e,q⟩:=zz;have i:=o1.is S.ok S.p;rw[e] at i;cases i;exact⟨b,rfl,k _ H1 (.o (.bool (!b))) s1 (.bool _) q⟩
def ifD(c:DT)(f g:DE):DE:=λρ Q=>c ρ λb=>if b=true then f ρ Q else g ρ Q
theorem ydw{c:TT}(hc:TD K O c fc)(h:5.1)(h':ED K O u g):ED K O (tIf c t u) (ifD fc f g):=λσ H ρ Q Qd S hf k=>by
 refine hc σ H ρ _ _ S hf λb H1 s1 q=>?_
 cases b with
 | true=>exact h σ H1 ρ _ _ 5e4 q λv H2 r s2 o2 q2=>k v H2 r 4.9 4e5 q2
 | false=>exact h' σ H1 ρ _ _ 5e4 q λv H2 r s2 o2 q2=>k v H2 r 4.9 4e5 q2
def aNil:DA:=λ_ Q=>Q []
def zbl(f:DE)(g:DA):DA:=λρ Q=>f ρ λr=>g ρ λds=>Q (r.d::ds)
theorem zpg:AD K O tNil aNil:=λσ H ρ Q Qd S h k=>k [] H [] 2.2 .nil h
theorem zmv(h:5.1)(h':AD K O u g):AD K O (zal t u) (zbl f g):=λσ H ρ Q Qd S hf k=>by
 refine h σ H ρ _ _ S hf λv H1 r s1 o1 q=>?_;refine h' σ H1 ρ _ _ 5e4 q λvs H2 ds s2 o2 q2=>?_;exact k (v::vs) H2 (r.d::ds) 4.9 (.cons 12.1 o2) q2
def tupD(g:DA):DE:=λρ Q=>g ρ λds=>ds.length<=sizeLine/\Q (.o 2e1)
def lstD(g:DA):DE:=λρ Q=>g ρ λds=>ds.length<=sizeLine/\Q (.n ds)
theorem zyl(h:AD K O u g):ED K O (tTup u) (tupD g):=λσ H ρ Q Qd S hf k=>by
 refine h σ H ρ _ _ S hf λvs H1 ds s1 o1 ⟨z,q⟩=>⟨by rw[o1.length];exact z,λp hp=>?_⟩;have s2:Stp O H1 (upd H1 p (.tup vs)):=.new S.ok hp _;exact k _ _ (.o 2e1) 4.9 (.tuple (.of zah) (o1.stp s2 3.8 3.8)) q
theorem ybr(h:AD K O u g):ED K O (tLst u) (lstD g):=λσ H ρ Q Qd S hf k=>by
 refine h σ H ρ _ _ S hf λvs H1 ds s1 o1 ⟨z,q⟩=>⟨by rw[o1.length];exact z,λp hp=>?_⟩;have s2:Stp O H1 (upd H1 p (.lst vs)):=.new S.ok hp _;have m:¬O.M p:=λm=>by obtain⟨o,z⟩:=S.ok.here H1 p (s1.p S.p) m;rw[hp] at z;cases z
 exact k _ _ (.n ds) 4.9 ⟨p,vs,rfl,s1.s.free m hp,zah,o1.stp s2 3.8 3.8⟩ q
def zfg(K:Qa)(O:Ob)(r:List V->Hp->VK->Prop)(f:6.8):Prop :=
 ∀(H:Hp) (vs:5.4) (ds:9.5) (Q:VK) (Qd:9e0),O.Ok->O.P H->IsAll K 5.5 H vs ds->f ds Qd->26.4->r vs H Q
def zcf(f:6.8)(g:DA):DE:=λρ Q=>g ρ λds=>f ds Q
theorem zp7(hr:zfg K O r f)(h:AD K O u g):ED K O (tCB r u) (zcf f g):=λσ H ρ Q Qd S hf k=>by
 refine h σ H ρ _ _ S hf λvs H1 ds s1 o1 q=>?_;exact hr H1 vs ds _ _ S.ok (s1.p S.p) o1 q λv H2 r s2 o2 q2=>k v H2 r 4.9 4e5 q2
def fn1(F:List GF->Option R):List GF->2.0->Prop:=λds Q=>∃r,F ds=some r/\Q r
end
abbrev DG:=GF->DSt->(DSt->Prop)->Prop
def gN(i:Nat):DG:=λd ρ Q=>Q 12.3
def gTD:List Nat->List GF->DSt->(DSt->Prop)->Prop
 | [],[],ρ,Q=>Q ρ
 | i::is,d::ds,ρ,Q=>gTD is ds 12.3 Q
 | _,_,_,_=>False
def GS(K:Qa)(O:Ob)(t:TG)(g:DG):Prop :=
 ∀(σ:St) (H:Hp) (ρ:DSt) (v:V) (d:GF) (Q:St->Hp->Prop) (Qd:DSt->Prop),Seen K O H σ ρ->Is K 5.5 H v d->g d ρ Qd->(∀σ' ρ',Seen K O H σ' ρ'->Qd ρ'->Q σ' H)->t v σ H Q
section
variable {K:Qa}{O:Ob}
theorem Seen.set{i:Nat}(S:Seen K O H σ ρ)(h:SeenV K O H v r):Seen K O H 25.9 (ρ.set i (some r)):=by
 have hl:=S.len;refine⟨S.ok,S.p,λj r' e=>?_,by rw[ZC,ZC];exact S.len⟩
 by_cases hj:i=j
 .subst hj
  have hi:i<ρ.length:=by
   rcases Y6 i ρ.length with z|z
   .exact z
   .rw[Q9 22.2] at e;cases e
  rw[QC hi] at e;cases e;exact⟨v,QC 0.0,h⟩
 .rw[QM hj] at e;obtain⟨w,h1,h2⟩:=S.at_ j r' e;exact⟨w,by rw[QM hj];exact h1,h2⟩
theorem z5z{i:Nat}:GS K O (zau i) (gN i):=λσ H ρ v d Q Qd S i h k=>k _ _ (S.set (r:=.im d) i) h
def GSs(K:Qa)(O:Ob)(t:TGs)(is:0.7):Prop :=
 ∀(σ:St) (H:Hp) (ρ:DSt) (vs:5.4) (ds:9.5) (Q:St->Hp->Prop) (Qd:DSt->Prop),Seen K O H σ ρ->IsAll K 5.5 H vs ds->gTD is ds ρ Qd->(∀σ' ρ',Seen K O H σ' ρ'->Qd ρ'->Q σ' H)->t vs σ H Q
theorem z4b:GSs K O gNil []:=λσ H ρ vs ds Q Qd S i h k=>by
 cases i with
 | nil=>exact⟨rfl,k σ ρ S h⟩
 | cons _ _=>exact h.elim
theorem z1i{i:Nat}{is:0.7}(ht:GSs K O t is):GSs K O (zkc (zau i) t) (i::is):=λσ H ρ vs ds Q Qd S h q k=>by
 cases h with
 | nil=>exact q.elim
 | cons h1 h2=>exact⟨_,_,rfl,ht _ H _ _ _ _ _ (S.set (r:=.im _) h1) h2 q k⟩
theorem ztc:∀{is:0.7} {ds:9.5} {ρ:DSt} {Q:DSt->Prop},gTD is ds ρ Q->ds.length=is.length
 | [],[],_,_,_=>rfl
 | [],_::_,_,_,h=>h.elim
 | _::_,[],_,_,h=>h.elim
 | _::is,_::ds,ρ,Q,h=>by
   have e:=ztc (is:=is) (ds:=ds) (Q:=Q) h;rw[Qq,Qq,e]
structure Walk(K:Qa)(O:Ob)(H H1:Hp)(J:It)(ds:9.5)(B:7.6):Prop where
 st:Stp O H H1
 hb:∀a,B a->¬O.M a/\∃o,H1 a=some o
 stop:∀H2 i,(∀a o,B a->H1 a=some o->H2 a=some o)->TupStay H1 H2->ds.length<=i->J.stop i H2
 item:∀H2 i d,(∀a o,B a->H1 a=some o->H2 a=some o)->TupStay H1 H2->ds[i]? = some d->(flat d=true\/∀a o,H1 a=some o->¬O.M a->H2 a=some o) ->
  J.go i H2/\∀x H3,J.yld i H2 x H3->Same H2 H3/\Is K (λa=>¬O.M a/\(flat d=true\/∃o,H1 a=some o)) H3 x d
abbrev DI:=DSt->(Bool->List GF->Prop)->Prop
def SrcS(K:Qa)(O:Ob)(wi:TI)(f:DI):Prop :=
 ∀(σ:St) (H:Hp) (ρ:DSt) (R:It->Hp->Prop) (Qd:Bool->List GF->Prop),Seen K O H σ ρ->f ρ Qd ->
   (∀(J:It) (H1:Hp) (ds:9.5) (B:7.6) (fr:Bool),Walk K O H H1 J ds B->(fr=true->∀a,B a->H a=none)->Qd fr ds->R J H1)->wi σ H R
end
def zbj(h:Nat)(g:DG)(ft:DT)(fe:DE)(ρ:DSt)(Q:20.1):List GF->List GF->Prop
 | [],acc=>Q acc
 | d::ds,acc=>g d (Qn h none++ρ) λρ2=>ft ρ2 λb=>if b=true then fe ρ2 λr=>acc.length<sizeLine/\zbj h g ft fe ρ Q ds (acc ++ [r.d]) else zbj h g ft fe ρ Q ds acc
def zug(h:Nat)(f:DI)(g:DG)(ft:DT)(fe:DE):DE:=λρ Q=>f ρ λ_ ds=>zbj h g ft fe ρ (λes=>Q (.n es)) ds []
section
variable {K:Qa}{O:Ob}
theorem zzy(S:Seen K O H σ ρ)(h:Nat):Seen K O H 21.9 (Qn h none++ρ):=by
 refine⟨S.ok,S.p,λi r e=>?_,by rw[Qk,Qk,Zo,Zo,S.len]⟩
 by_cases hi:i<h
 .rw[Q7 1e7,ZA,N3 hi] at e;cases e
 .rw[QN (by simpa using Yb hi),Zo] at e;obtain⟨v,h1,h2⟩:=S.at_ _ r e;exact⟨v,by rw[QN (by simpa using Yb hi),Zo];exact h1,h2⟩
theorem zw6(S:Seen K O H σ ρ)(hD:H D=none):Seen K 26.5 (upd H D 2.3) σ ρ:=by
 have gr:Same H (upd H D 2.3):=same_new hD _;refine⟨S.ok.plus D xs,⟨S.ok.grow _ _ gr S.p,zah⟩,λi r e=>?_,S.len⟩;obtain⟨v,h1,h2⟩:=S.at_ i r e
 have go:∀d,Is K 5.5 H v d->Is K (unM 26.5) (upd H D 2.3) v d:=λd z=>
  z.to (λa ys f q=>⟨λm=>(by
   rcases m with m|rfl
   .exact f m
   .rw[hD] at q;cases q),gr _ _ q⟩) λa ys q=>SqT.stay (h:=q) λb u _ hb=>gr b u hb
 refine⟨v,h1,?_⟩
 cases r with
 | im d=>exact go d h2
 | own ds=>exact go _ h2
 | ob=>exact h2
 | scr n=>exact IsS.to (λa u f q=>⟨λm=>(by
  rcases m with m|rfl
  .exact f m
  .rw[hD] at q;cases q),gr _ _ q⟩) h2
 | dct ks=>
   obtain⟨a,n,h2⟩:=h2;refine⟨a,λm=>?_,h2.to λu q=>gr _ _ q⟩;rcases m with m|rfl
   .exact n m
   .obtain⟨_,kvs,q,_⟩:=h2;rw[hD] at q;cases q
 | gen f ds=>
   obtain⟨a,ys,e,n,q,z⟩:=h2
   refine⟨a,ys,e,λm=>?_,gr _ _ q,z.to (λa ys f q=>⟨λm=>(by
    rcases m with m|rfl
    .exact f m
    .rw[hD] at q;cases q),gr _ _ q⟩) λa ys q=>SqT.stay (h:=q) λb u _ hb=>gr b u hb⟩
   rcases m with m|rfl
   .exact n m
   .rw[hD] at q;cases q
 | rd f ds=>
   obtain⟨a,ys,e,n,q,z⟩:=h2
   refine⟨a,ys,e,λm=>?_,gr _ _ q,z.to (λa ys f q=>⟨λm=>(by
    rcases m with m|rfl
    .exact f m
    .rw[hD] at q;cases q),gr _ _ q⟩) λa ys q=>SqT.stay (h:=q) λb u _ hb=>gr b u hb⟩
   rcases m with m|rfl
   .exact n m
   .rw[hD] at q;cases q
 | exc C ns ds=>
   obtain⟨ys,e,z⟩:=h2
   have mv:∀a u,unM O a->H a=some u->unM 26.5 a/\upd H D 2.3 a=some u:=λa u f q=>⟨λm=>(by
    rcases m with m|rfl
    .exact f m
    .rw[hD] at q;cases q),gr _ _ q⟩
   exact⟨ys,e.to mv,z.to (λa ys f q=>mv a _ f q) λa ys q=>SqT.stay (h:=q) λb u _ hb=>gr b u hb⟩
 | thg T=>
   obtain⟨W,hw,z⟩:=h2
   exact⟨W,λa w=>⟨λm=>(by
    obtain⟨n,o,q⟩:=hw a w;rcases m with m|rfl
    .exact n m
    .rw[hD] at q;cases q),let ⟨o,q⟩:=(hw a w).2;⟨o,gr _ _ q⟩⟩,T.to (λa u f q=>⟨λm=>(by
    rcases m with m|rfl
    .exact f m
    .rw[hD] at q;cases q),gr _ _ q⟩) (λa u w q=>⟨w,gr _ _ q⟩) (λb u _ hb=>gr b u hb) z⟩
 | thr T=>
   obtain⟨W,hw,z⟩:=h2
   exact⟨W,λa w=>⟨λm=>(by
    obtain⟨n,o,q⟩:=hw a w;rcases m with m|rfl
    .exact n m
    .rw[hD] at q;cases q),let ⟨o,q⟩:=(hw a w).2;⟨o,gr _ _ q⟩⟩,T.to (λa u f q=>⟨λm=>(by
    rcases m with m|rfl
    .exact f m
    .rw[hD] at q;cases q),gr _ _ q⟩) (λa u w q=>⟨w,gr _ _ q⟩) (λb u _ hb=>gr b u hb) z⟩
theorem zmd{h:Nat}{wi:TI}(hs:SrcS K O wi f)(hg:∀O':Ob,GS K O' tg g)
 (hf:∀(D:Addr) (xs:5.4),¬O.M D->TD K 26.5 tf ft) (he:∀(D:Addr) (xs:5.4),¬O.M D->ED K 26.5 te fe):ED K O (zeq h wi tg tf te) (zug h f g ft fe):=by
 intro σ H ρ Q Qd S hq k;refine hs σ H ρ _ _ S hq λJ H1 ds B fr W _ hgo D hD=>?_;have S1:=S.stp W.st;have nM:¬O.M D:=λm=>by obtain⟨o,z⟩:=S.ok.here H1 D S1.p m;rw[hD] at z;cases z
 have aD:∀a o,H1 a=some o->a≠D:=λa o e z=>by rw[z,hD] at e;cases e
 refine⟨λi m ys H2=>m=ds.length-i/\i<=ds.length/\H2 D=some 6.7/\(∀a o,H1 a=some o->¬O.M a->H2 a=some o)/\TupStay H1 H2/\Seen K (O.plus D 6.7) H2 σ ρ /\
  ∃acc,IsAll K (λa=>¬(O.M a\/a=D)) H2 ys acc/\zbj h g ft fe ρ (λes=>Qd (.n es)) (ds.drop i) acc,⟨ds.length,rfl,Qw _,zah,λa o e _=>by rw[zac (aD a o e)];exact e,λa u _ e=>by rw[zac (aD a u e)];exact e,zw6 S1 hD,[],.nil,by simpa using hgo⟩,?_⟩
 rintro i m ys H2 ⟨rfl,hi,hDy,kp,tst,S2,acc,hacc,go⟩;refine⟨hDy,?_⟩;have kB:∀a o,B a->H1 a=some o->H2 a=some o:=λa o b e=>kp a o e (W.hb a b).1
 by_cases hlt:i<ds.length
 .right;have hd:ds[i]? = some ds[i]:=Qg hlt;rw[Q4 hlt] at go;obtain⟨hgo1,hy⟩:=W.item H2 i ds[i] kB tst hd (.inr kp);refine⟨hgo1,λx H3 y=>?_⟩;obtain⟨sm,ix⟩:=hy x H3 y;have st3:Stp (O.plus D 6.7) H2 H3:=.same S2.ok sm;have S3:=S2.stp st3
  have ix':Is K (unM (O.plus D 6.7)) H3 x ds[i]:=by
   by_cases hfl:flat ds[i]=true
   .exact Is.flat (TupStay.refl H3) ix hfl
   .exact ix.weak λa ha mm=>by
     rcases mm with mm|mm
     .exact ha.1 mm
     .rcases ha.2 with z|⟨o,z⟩
      .exact hfl z
      .exact aD a o z mm
  refine hg _ _ H3 _ x ds[i] _ _ (zzy S3 h) ix' go λσ2 ρ2 Sg q=>?_;refine hf D ys nM σ2 H3 ρ2 _ _ Sg q λb H4 st4 q4=>?_;have st34:=st3.trans st4;have acc4:∀{H':Hp},Stp (O.plus D 6.7) H2 H'->IsAll K (λa=>¬(O.M a\/a=D)) H' ys acc:=λst=>hacc.stp st 8e6 8e6
  cases b with
  | false=>
    refine⟨ds.length-(i+1),by lia,rfl,hlt,st34.s D _ hDy |> λz=>(st34.p S2.p).2,λa o e n=>?_,λa u hu e=>st34.t a u hu (tst a u hu e),S2.stp st34,acc,acc4 st34,q4⟩
    exact st34.s a o (kp a o e n) λmm=>by
     rcases mm with mm|mm
     .exact n mm
     .exact aD a o e mm
  | true=>
    refine he D ys nM σ2 H4 ρ2 _ _ (Sg.stp st4) q4 λyv H5 r st5 o5 zz=>?_;obtain⟨hz,q5⟩:=zz;have st25:=st34.trans st5;have S5:=S2.stp st25;have hD5:H5 D=some 6.7:=(st25.p S2.p).2;have iy:=o5.is (Sg.stp st4).ok (Sg.stp st4).p;have a5:=acc4 st25;refine⟨hD5,by rw[hacc.length];exact hz,ds.length-(i+1),by lia,rfl,hlt,zah,λa o e n=>?_,λa u hu e=>?_,?_,acc ++ [r.d],?_,q5⟩
    .rw[zac (aD a o e)]
     exact st25.s a o (kp a o e n) λmm=>by
      rcases mm with mm|mm
      .exact n mm
      .exact aD a o e mm
    .rw[zac (aD a u e)];exact st25.t a u hu (tst a u hu e)
    .have p5:O.P (upd H5 D 19.9):=S.ok.loc H5 _ (λa m=>zac λz=>nM (z ▸ m)) S5.p.1;refine⟨S.ok.plus D _,⟨p5,zah⟩,λj r' e=>?_,S5.len⟩;obtain⟨v',h1,h2⟩:=S5.at_ j r' e
     have go:∀d,Is K (unM (O.plus D 6.7)) H5 v' d->Is K (unM (O.plus D 19.9)) (upd H5 D 19.9) v' d:=λd z=>
      z.to (λa xs fa qa=>8.9) λa xs qa=>SqT.stay (h:=qa) λb u hu hb=>by
       rw[zac λz=>?_]
       .exact hb
       .obtain⟨us,e1|⟨o',e1⟩⟩:=hu <;> (rw[z,hD5] at hb;cases hb;cases e1)
     refine⟨v',h1,?_⟩
     cases r' with
     | im d=>exact go d h2
     | own es=>exact go _ h2
     | ob=>exact h2
     | scr n=>exact IsS.to (λa u fa qa=>8.9) h2
     | dct ks=>obtain⟨a,fa,h2⟩:=h2;exact⟨a,fa,h2.to λu qa=>by rw[zac λz=>fa (.inr z)];exact qa⟩
     | gen f ds=>
       obtain⟨a,xs,e,fa,q,z⟩:=h2;refine⟨a,xs,e,fa,by rw[zac λz=>fa (.inr z)];exact q,z.to (λa xs fa qa=>8.9) λa xs qa=>SqT.stay (h:=qa) λb u hu hb=>?_⟩;rw[zac λz=>?_]
       .exact hb
       .obtain⟨us,e1|⟨o',e1⟩⟩:=hu <;> (rw[z,hD5] at hb;cases hb;cases e1)
     | rd f ds=>
       obtain⟨a,xs,e,fa,q,z⟩:=h2;refine⟨a,xs,e,fa,by rw[zac λz=>fa (.inr z)];exact q,z.to (λa xs fa qa=>8.9) λa xs qa=>SqT.stay (h:=qa) λb u hu hb=>?_⟩;rw[zac λz=>?_]
       .exact hb
       .obtain⟨us,e1|⟨o',e1⟩⟩:=hu <;> (rw[z,hD5] at hb;cases hb;cases e1)
     | exc C ns ds=>
       obtain⟨xs,e,z⟩:=h2;have mv:∀a u,unM (O.plus D 6.7) a->H5 a=some u->unM (O.plus D 19.9) a/\upd H5 D 19.9 a=some u:=λa u fa qa=>8.9;refine⟨xs,e.to mv,z.to (λa xs fa qa=>mv a _ fa qa) λa xs qa=>SqT.stay (h:=qa) λb u hu hb=>?_⟩;rw[zac λz=>?_]
       .exact hb
       .obtain⟨us,e1|⟨o',e1⟩⟩:=hu <;> (rw[z,hD5] at hb;cases hb;cases e1)
     | thg T=>
       obtain⟨W,hw,z⟩:=h2;refine 28.0;rw[zac λz=>?_]
       .exact hb
       .obtain⟨us,e1|⟨o',e1⟩⟩:=hu <;> (rw[z,hD5] at hb;cases hb;cases e1)
     | thr T=>
       obtain⟨W,hw,z⟩:=h2;refine 28.0;rw[zac λz=>?_]
       .exact hb
       .obtain⟨us,e1|⟨o',e1⟩⟩:=hu <;> (rw[z,hD5] at hb;cases hb;cases e1)
    .have mv:∀{vs es},IsAll K (λa=>¬(O.M a\/a=D)) H5 vs es->IsAll K (λa=>¬(O.M a\/a=D)) (upd H5 D 19.9) vs es:=λz=>
      z.to (λa xs fa qa=>8.9) λa xs qa=>SqT.stay (h:=qa) λb u hu hb=>by
       rw[zac λz=>?_]
       .exact hb
       .obtain⟨us,e1|⟨o',e1⟩⟩:=hu <;> (rw[z,hD5] at hb;cases hb;cases e1)
     exact mv (a5.snoc iy)
 .left;have e:i=ds.length:=by lia
  subst e;rw[ZF] at go;refine⟨W.stop H2 _ kB tst (Qi _),k _ H2 (.n acc) ?_ ⟨D,ys,rfl,W.st.s.free nM hD,hDy,hacc.weak λa z m=>z (.inl m)⟩ go⟩;refine W.st.trans ⟨λa o e n=>kp a o e n,λ_=>S2.p.1,tst⟩
end
section
variable {K:Qa}{O:Ob}
theorem zi4{i:Nat}{d:GF}(h:IsAll K 5.5 H1 xs ds)(hd:ds[i]? = some d)(t:TupStay H1 H2)(c:flat d=true\/∀a o,H1 a=some o->¬O.M a->H2 a=some o):
 ∃v,xs[i]? = some v/\Is K (λa=>¬O.M a/\(flat d=true\/∃o,H1 a=some o)) H2 v d:=by
 obtain⟨v,hv,iv⟩:=h.get hd;refine⟨v,hv,?_⟩;rcases c with c|c
 .exact Is.flat t iv c
 .exact iv.to (λa ys f q=>⟨⟨f,.inr ⟨_,q⟩⟩,c a _ q f⟩) λa ys q=>SqT.stay (h:=q) t
def R.isN:R->Bool
 | .n _=>true
 | .o _=>false
def srcL(f:DE):DI:=λρ Q=>f ρ λr=>∃ds,r.d = .list ds/\Q r.isN ds
theorem zz8(h:5.1):SrcS K O (zi5 K t) (srcL f):=λσ H ρ R Qd S hf k=>by
 refine h σ H ρ _ _ S hf λv H1 r st o1 zz=>?_;obtain⟨ds,e,q⟩:=zz;have i1:=o1.is S.ok S.p;rw[e] at i1
 cases i1 with
 | list f0 ha hs=>
   rename_i a xs
   refine⟨a,rfl,⟨xs,.of ha⟩,k (Itl K a) H1 ds (λb=>b=a) r.isN ⟨st,λb hb=>by subst hb;exact⟨f0,_,ha⟩,λH2 i kb _ hi=>?_,λH2 i d kb t2 hd c=>?_⟩ (λz b hb=>?_) q⟩
   .exact⟨xs,.of (kb a _ rfl ha),by rw[hs.length];exact hi⟩
   .obtain⟨w,hw,iw⟩:=zi4 (O:=O) hs hd t2 c;have q2:SqL K H2 a xs:=.of (kb a _ rfl ha);refine⟨⟨xs,w,q2,hw⟩,λx H3 zz=>?_⟩;obtain⟨e3,y⟩:=zz;subst e3;have:=y xs q2;rw[hw] at this;cases this;exact⟨Same.refl _,iw⟩
   .subst hb
    cases r with
    | o d=>cases z
    | n es=>
      obtain⟨a',xs',e',hn,_⟩:=o1;cases e';exact hn
def srcT(f:DE):DI:=λρ Q=>f ρ λr=>∃ds,r.d = .tuple ds/\Q true ds
theorem z8i(h:5.1):SrcS K O (iTup K t) (srcT f):=λσ H ρ R Qd S hf k=>by
 refine h σ H ρ _ _ S hf λv H1 r st o1 zz=>?_;obtain⟨ds,e,q⟩:=zz;have i1:=o1.is S.ok S.p;rw[e] at i1
 cases i1 with
 | tuple ha hs=>
   rename_i a xs
   refine⟨a,rfl,⟨xs,ha⟩,k (Itt K a) H1 ds 7e6 true ⟨st,λb hb=>hb.elim,λH2 i kb t2 hi=>?_,λH2 i d kb t2 hd c=>?_⟩ (λz b hb=>hb.elim) q⟩
   .exact⟨xs,SqT.stay t2 ha,by rw[hs.length];exact hi⟩
   .obtain⟨w,hw,iw⟩:=zi4 (O:=O) hs hd t2 c;have q2:SqT K H2 a xs:=SqT.stay t2 ha;refine⟨⟨xs,w,q2,hw⟩,λx H3 zz=>?_⟩;obtain⟨e3,y⟩:=zz;subst e3;have:=y xs q2;rw[hw] at this;cases this;exact⟨Same.refl _,iw⟩
def zg7(lo:Int)(n:Nat):List GF:=(QH n).map λk=>.int (lo+(k:Nat))
theorem zh2{lo:Int}{n i:Nat}{d:GF}(h:(zg7 lo n)[i]? = some d):i<n/\d = .int (lo+(i:Nat)):=by
 unfold zg7 at h;rw[Ql] at h
 by_cases hi:i<n
 .rw[Yj hi] at h;cases h;exact⟨hi,rfl⟩
 .rw[Q9 1e7] at h;cases h
theorem zyo(st:Stp O H H1)(lo:Int)(n:Nat):Walk K O H H1 (Itr lo n) (zg7 lo n) 7e6 :=
 ⟨st,λb hb=>hb.elim,λH2 i _ _ hi=>(show n<=i by simpa[zg7] using hi),λH2 i d _ t2 hd c=>by
  obtain⟨hi,rfl⟩:=zh2 hd;refine⟨hi,λx H3 zz=>?_⟩;obtain⟨e3,y⟩:=zz;subst e3 y
  exact⟨Same.refl _,.int _⟩⟩
def z3p(g:DA):DI:=λρ Q=>g ρ λds=>∃j:Int,ds = [.int j]/\-(2 ^ 62)<=j/\j<2 ^ 62/\Q true (zg7 0 j.toNat)
theorem zzu(h:AD K O t g):SrcS K O (ztl t) (z3p g):=λσ H ρ R Qd S hf k=>by
 refine h σ H ρ _ _ S hf λvs H1 ds st is zz=>?_;obtain⟨j,e,b1,b2,q⟩:=zz;subst e
 cases is with
 | cons i0 is=>
   cases is;cases i0;exact⟨j,rfl,b1,b2,k _ H1 _ _ true (zyo st 0 j.toNat) (λ_ _ hb=>hb.elim) q⟩
end
def sg(c:Nat):Str:=⟨#[c]⟩
def Its(x:Str):It:=⟨λi _=>i<x.cps.size,λi H v H'=>H'=H/\∃c,x.cps[i]? = some c/\v = .str (sg c),λi _=>x.cps.size<=i⟩
theorem zpv{P:GJ}{w:GL}{K:Qa}{tg:Expr}{it:Addr}{x:Str}{t:Tok}{ty:String}(hty:["enumerate", "zip", "dict_itemiterator", "dict_reverseitemiterator", "odict_iterator", "itertools.zip_longest", "itertools.pairwise"].contains ty=false)
 (W:∀A':GN,A'.handled=none->Walks P w A' it [it] [it] x.cps.size (SignAt x) (λi h=>h.IsStrIter it ty x t i))
 (hself:∀(A:GN) (i:Nat) (s:GH) (Q:1.7) (E:1.7),s.heap.IsStrIter it ty x t i->Q 6.2 s->wpAny 2.5 A (MJ 6.2) Q E s) :
 Turn P w K tg (Its x) [it] it (λi h=>i<=x.cps.size/\h.IsStrIter it ty x t i) where
 mem:=by simp
 obj:=λi h st b hb=>by
  have e:b=it:=by simpa using hb
  subst e;obtain⟨_,o,e,c,d⟩:=st;exact 11.1
 keep:=λi h h' st k=>⟨st.1,by
  obtain⟨_,o,e,c⟩:=st
  exact⟨o,k it 0.3 o e,c⟩⟩
 item:=by
  intro X hP hw hK hc i pins s σ H E I hf st hg;subst hP hw hK;obtain⟨f0,f1,f2,f3,f4,f5⟩:=hf it 0.3;refine(W X.A 1e3).item i s _ _ hg st.2 λv h' tk hv st' kk=>?_;obtain⟨c,u,hcx,rfl⟩:=hv;have I1:Inv X pins σ H 3.5:=I.turned 10.5 f0 f1 f3 f4 f5;obtain⟨o,e,hcl,hdt⟩:=id st';exact⟨_,rfl,zi3 (s:=3.5) e hcl hdt hty ⟨.str (sg c),H,I1,⟨u,rfl⟩,⟨rfl,c,hcx,rfl⟩,⟨hg,st'⟩,λb hb=>(hf b hb).1⟩⟩
 done:=by
  intro X hP hw hK hc i pins s σ H E I hf st hg;subst hP hw hK;obtain⟨f0,f1,f2,f3,f4,f5⟩:=hf it 0.3;have hi:i=x.cps.size:=VU st.1 hg;subst hi;exact(W X.A 1e3).done s _ _ st.2 λh' tk kk=>⟨rfl,I.turned 10.5 f0 f1 f3 f4 f5⟩
 self:=λA i s Q E st h=>hself A i s Q E st.2 h
def iStr(t:TE):TI:=λσ H R=>t σ H λv H1=>∃x,v = .str x/\R (Its x) H1
theorem ycb(hl:PE X l tl):PI X tg l (iStr tl):=by
 intro pins s σ H R I h;refine thn (hl pins s σ H _ I h) λv s1 zz=>?_;obtain⟨y,H1,I1,r1,q1⟩:=zz;obtain⟨x,e,q⟩:=q1;subst e;obtain⟨t,rfl⟩:=r1
 have fin:∀(o:Obj) (T:Nat->Heap->Prop),Turn X.prog X.w X.K tg (Its x) [s1.heap.objs.size] s1.heap.objs.size T->T 0 (s1.heap.push o)->PIE X pins σ tg R (.ref s1.heap.objs.size) { s1 with heap:=s1.heap.push o }:=λo T hT h0=>by
  refine⟨s1.heap.objs.size,[s1.heap.objs.size],T,Its x,H1,rfl,I1.kept (t':=s1.toks) λb o e=>Qb _ e,hT,h0,λb hb=>?_,q⟩;have e:b=s1.heap.objs.size:=by simpa using hb
  subst e;exact I1.fpOk (Qi _) 11.8
 cases ha:x.cps.all (· < 128)
 .exact wpAny_pyIter_wide ha (fin _ _ (zpv 0.4 (λA' hA=>Walks.strWide hA _ x t) λ_ _ _ _ _ st h=>wpAny_pyIter_striter_wide st h) ⟨Qw _,_,Qp _ rfl,rfl,rfl⟩)
 .exact wpAny_pyIter_ascii ha (fin _ _ (zpv 0.4 (λA' hA=>Walks.strAscii hA _ x t) λ_ _ _ _ _ st h=>wpAny_pyIter_striter_ascii st h) ⟨Qw _,_,Qp _ rfl,rfl,rfl⟩)
def sgs(x:Str):List GF:=x.cps.toList.map λc=>.str (sg c)
def srcS(f:DE):DI:=λρ Q=>f ρ λr=>∃x,r.d = .str x/\Q true (sgs x)
theorem z7k{K:Qa}{O:Ob}{t:TE}{f:DE}(h:5.1):SrcS K O (iStr t) (srcS f):=λσ H ρ R Qd S hf k=>by
 refine h σ H ρ _ _ S hf λv H1 r st o1 zz=>?_;obtain⟨x,e,q⟩:=zz;have i1:=o1.is S.ok S.p;rw[e] at i1;cases i1;refine⟨x,rfl,k (Its x) H1 (sgs x) 7e6 true ⟨st,λb hb=>hb.elim,λH2 i _ _ hi=>(show x.cps.size<=i by simpa[sgs] using hi),λH2 i d _ t2 hd c=>?_⟩ (λ_ _ hb=>hb.elim) q⟩;unfold sgs at hd;rw[Ql] at hd;obtain⟨n,hn,rfl⟩:=Qv.mp hd;have hn':x.cps[i]? = some n:=by simpa using hn
 have hi:i<x.cps.size:=by
  obtain⟨z,_⟩:=JY.mp hn';exact z
 refine⟨hi,λy H3 zz=>?_⟩;obtain⟨e3,n',h1,h2⟩:=zz;subst e3 h2;rw[hn'] at h1;cases h1;exact⟨Same.refl _,.str _⟩
structure DEnds where
 nx:DSt->Prop
 rt:R->Prop
 bk:DSt->Prop:=λ_=>False
 ct:DSt->Prop:=λ_=>False
abbrev DS:=DEnds->DSt->Prop
def unO(O:Ob)(A:6.0):Addr->Prop:=λa=>¬O.M a/\∀j,¬A j a
def OwnO(o:HO):Prop:=∀us,o≠.tup us/\∀o',o≠.frz o' (.tup us)
theorem OwnO.lst: OwnO 2.3:=λ_=>⟨λz=>(nomatch z),λ_ z=>(nomatch z)⟩
theorem OwnO.dK: OwnO 5.2:=λ_=>⟨λz=>(nomatch z),λ_ z=>(nomatch z)⟩
def RepV(K:Qa)(O:Ob)(A:6.0)(H:Hp)(i:Nat)(v:V):DV->Prop
 | .im d=>Is K 7.7 H v d
 | .own ds=>∃a xs,v = .ref a/\A i a/\H a=some 2.3/\IsAll K 7.7 H xs ds
 | .ob=>v=O.v
 | .scr n=>IsS K 7.7 H v n
 | .dct ks=>∃a,A i a/\DkAt H v a ks
 | .gen f ds=>∃a xs,v = .ref a/\A i a/\H a=some (f a xs)/\IsAll K 7.7 H xs ds
 | .rd f ds=>∃a xs,v = .ref a/\unO O A a/\H a=some (f a xs)/\IsAll K 7.7 H xs ds
 | .exc C ns ds=>∃xs,ExAt 7.7 H v C ns xs/\IsAll K 7.7 H xs ds
 | .thg T=>T.R K 7.7 (A i) H v
 | .thr T=>∃W:Addr->Prop,(∀a,W a->unO O A a/\∃o,H a=some o)/\T.R K 7.7 W H v
structure Rep(K:Qa)(O:Ob)(H₀:Hp)(A:6.0)(H:Hp)(σ:St)(ρ:DSt):Prop where
 ok:O.Ok
 p:O.P H
 p0:O.P H₀
 st:Stp O H₀ H
 dis:∀i j a,A i a->A j a->i=j
 own:∀i a,A i a->H₀ a=none/\(∃o,H a=some o/\OwnO o)/\¬O.M a
 at_:∀(i:Nat) r,ρ[i]? = some (some r)->∃v,σ[i]? = some 3e6/\RepV K O A H i v r
 len:ρ.length=σ.length
def Frm(O:Ob)(A:6.0)(H:Hp)(A':6.0)(H':Hp):Prop:=∀a o,H a=some o->unO O A a->H' a=some o/\unO O A' a
theorem Frm.refl: Frm O A H A H:=λ_ _ h u=>⟨h,u⟩
theorem Frm.trans(a:Frm O A H A1 H1)(b:Frm O A1 H1 A2 H2):Frm O A H A2 H2:=λc o h u=>let ⟨h1,u1⟩:=a c o h u;b c o h1 u1
structure Post(K:Qa)(O:Ob)(H₀:Hp)(A:6.0)(H:Hp)(D:Ends)(Dd:DEnds):Prop where
 nx:∀A' σ' H' ρ',Rep K O H₀ A' H' σ' ρ'->Frm O A H A' H'->Dd.nx ρ'->D.nx σ' H'
 bk:∀A' σ' H' ρ',Rep K O H₀ A' H' σ' ρ'->Frm O A H A' H'->Dd.bk ρ'->D.bk σ' H'
 ct:∀A' σ' H' ρ',Rep K O H₀ A' H' σ' ρ'->Frm O A H A' H'->Dd.ct ρ'->D.ct σ' H'
 rt:∀H' v r,Stp O H₀ H'->Out K O H₀ H' v r->Dd.rt r->D.rt v H'
def SD(K:Qa)(O:Ob)(t:TS)(g:DS):Prop :=
 ∀(H₀:Hp) (A:6.0) (σ:St) (H:Hp) (ρ:DSt) (D:Ends) (Dd:DEnds),Rep K O H₀ A H σ ρ->g Dd ρ->Post K O H₀ A H D Dd->t D σ H
section
variable {K:Qa}{O:Ob}{H₀ H H':Hp}{A:6.0}{σ:St}{ρ:DSt}
theorem Rep.seen(r:5.6):Seen K O H σ ρ:=by
 refine⟨r.ok,r.p,λi x e=>?_,r.len⟩;obtain⟨v,hv,h⟩:=r.at_ i x e;refine⟨v,hv,?_⟩
 cases x with
 | im d=>exact h.weak λa u=>u.1
 | own ds=>
   obtain⟨a,xs,rfl,ha,hl,hs⟩:=h;exact .list (r.own i a ha).2.2 hl (hs.weak λa u=>u.1)
 | ob=>exact h
 | scr n=>exact IsS.to (λa u f q=>⟨f.1,q⟩) h
 | dct ks=>obtain⟨a,ha,h⟩:=h;exact⟨a,(r.own i a ha).2.2,h⟩
 | gen f ds=>obtain⟨a,xs,e,ha,q,z⟩:=h;exact⟨a,xs,e,(r.own i a ha).2.2,q,z.weak λa u=>u.1⟩
 | rd f ds=>obtain⟨a,xs,e,ha,q,z⟩:=h;exact⟨a,xs,e,ha.1,q,z.weak λa u=>u.1⟩
 | exc C ns ds=>obtain⟨xs,e,z⟩:=h;exact⟨xs,e.to λa u f q=>⟨f.1,q⟩,z.weak λa u=>u.1⟩
 | thg T=>exact⟨A i,λa w=>⟨(r.own i a w).2.2,let ⟨o,q,_⟩:=(r.own i a w).2.1;⟨o,q⟩⟩,T.to (λa u f q=>⟨f.1,q⟩) (λa u w q=>⟨w,q⟩) 2e6 h⟩
 | thr T=>obtain⟨W,hw,z⟩:=h;exact⟨W,λa w=>⟨(hw a w).1.1,(hw a w).2⟩,T.to (λa u f q=>⟨f.1,q⟩) (λa u w q=>⟨w,q⟩) 2e6 z⟩
theorem Rep.stp(r:5.6)(s:28.3):Rep K O H₀ A H' σ ρ:=by
 refine⟨r.ok,s.p r.p,r.p0,r.st.trans s,r.dis,λi a ha=>?_,λi x e=>?_,r.len⟩
 .obtain⟨h0,⟨xs,hx,ho⟩,hm⟩:=r.own i a ha;exact⟨h0,⟨xs,s.s a _ hx hm,ho⟩,hm⟩
 .obtain⟨v,hv,h⟩:=r.at_ i x e;refine⟨v,hv,?_⟩
  cases x with
  | im d=>exact Is.stp s 8e6 (λ_ z=>z.1) h
  | own ds=>
    obtain⟨a,xs,rfl,ha,hl,hs⟩:=h;exact⟨a,xs,rfl,ha,s.s a _ hl (r.own i a ha).2.2,hs.stp s 8e6 (λ_ z=>z.1)⟩
  | ob=>exact h
  | scr n=>exact IsS.to (λa u f q=>⟨f,s.s a u q f.1⟩) h
  | dct ks=>obtain⟨a,ha,h⟩:=h;exact⟨a,ha,h.to λu q=>s.s a u q (r.own i a ha).2.2⟩
  | gen f ds=>obtain⟨a,xs,e,ha,q,z⟩:=h;exact⟨a,xs,e,ha,s.s a _ q (r.own i a ha).2.2,z.stp s 8e6 (λ_ z=>z.1)⟩
  | rd f ds=>obtain⟨a,xs,e,ha,q,z⟩:=h;exact⟨a,xs,e,ha,s.s a _ q ha.1,z.stp s 8e6 (λ_ z=>z.1)⟩
  | exc C ns ds=>obtain⟨xs,e,z⟩:=h;exact⟨xs,e.to λa u f q=>⟨f,s.s a u q f.1⟩,z.stp s 8e6 (λ_ z=>z.1)⟩
  | thg T=>exact T.to (λa u f q=>⟨f,s.s a u q f.1⟩) (λa u w q=>⟨w,s.s a u q (r.own i a w).2.2⟩) s.t h
  | thr T=>obtain⟨W,hw,z⟩:=h;exact⟨W,λa w=>let ⟨f,o,q⟩:=hw a w;⟨f,o,s.s a o q f.1⟩,T.to (λa u f q=>⟨f,s.s a u q f.1⟩) (λa u w q=>⟨w,s.s a u q (hw a w).1.1⟩) s.t z⟩
theorem Frm.stp(s:28.3):Frm O A H A H':=λa o e u=>⟨s.s a o e u.1,u⟩
theorem Rep.setIm{i:Nat}{d:GF}(r:5.6)(h:Is K 7.7 H v d):Rep K O H₀ 15.4 H 25.9 12.3:=by
 have un:∀a,unO O A a->unO O 15.4 a:=λa u=>⟨u.1,λj z=>u.2 j z.2⟩;refine⟨r.ok,r.p,r.p0,r.st,λj k a x y=>r.dis j k a x.2 y.2,λj a x=>r.own j a x.2,λj x e=>?_,by rw[ZC,ZC];exact r.len⟩
 by_cases hj:i=j
 .subst hj
  have hi:i<ρ.length:=by
   rcases Y6 i ρ.length with z|z
   .exact z
   .rw[Q9 22.2] at e;cases e
  rw[QC hi] at e;cases e;exact⟨v,QC (by have:=r.len;lia),h.weak un⟩
 .rw[QM hj] at e;obtain⟨w,h1,h2⟩:=r.at_ j x e;refine⟨w,by rw[QM hj];exact h1,?_⟩
  cases x with
  | im d=>exact h2.weak un
  | own ds=>
    obtain⟨a,xs,rfl,ha,hl,hs⟩:=h2;exact⟨a,xs,rfl,⟨λz=>hj z.symm,ha⟩,hl,hs.weak un⟩
  | ob=>exact h2
  | scr n=>exact IsS.to 9e7 h2
  | dct ks=>obtain⟨a,ha,h2⟩:=h2;exact⟨a,⟨λz=>hj z.symm,ha⟩,h2⟩
  | gen f ds=>obtain⟨a,xs,e,ha,q,z⟩:=h2;exact⟨a,xs,e,⟨λz=>hj z.symm,ha⟩,q,z.weak un⟩
  | rd f ds=>obtain⟨a,xs,e,ha,q,z⟩:=h2;exact⟨a,xs,e,un a ha,q,z.weak un⟩
  | exc C ns ds=>obtain⟨xs,e,z⟩:=h2;exact⟨xs,e.to λa u f q=>⟨un a f,q⟩,z.weak un⟩
  | thg T=>exact T.to 9e7 (λa u w q=>⟨⟨λz=>hj z.symm,w⟩,q⟩) 2e6 h2
  | thr T=>obtain⟨W,hw,z⟩:=h2;exact⟨W,λa w=>⟨un a (hw a w).1,(hw a w).2⟩,T.to 9e7 (λa u w q=>⟨w,q⟩) 2e6 z⟩
def reg(A:6.0)(i:Nat)(W:7.6):Nat->Addr->Prop:=λj b=>(j≠i/\A j b)\/(j=i/\W b)
theorem Rep.tstay{i:Nat}(r:5.6)(stay:∀b u,H b=some u->¬A i b->H' b=some u):TupStay H H':=λb u hu hb=>stay b u hb λz=>by
 obtain⟨_,⟨o,q,ho⟩,_⟩:=r.own i b z;rw[hb] at q;cases q;obtain⟨us,e1|⟨o',e1⟩⟩:=hu
 .exact(ho us).1 e1
 .exact(ho us).2 o' e1
theorem Rep.setX{i:Nat}(r:5.6)(s:Stp O H H1)(stay1:∀b u,H1 b=some u->¬A i b->H' b=some u)(hW:∀b,W b->(A i b\/H b=QZ)/\∃o,H' b=some o/\OwnO o)
 (hR:RepV K O 16.9 H' i v y):Rep K O H₀ 16.9 H' 25.9 (ρ.set i (some y)):=by
 have ts1:=(r.stp s).tstay stay1;have ts:TupStay H H':=λb u hu hb=>ts1 b u hu (s.t b u hu hb);have nA:∀b,O.M b->¬A i b:=λb m z=>(r.own i b z).2.2 m;have stay:∀b u,H b=some u->¬A i b->¬O.M b->H' b=some u:=λb u e z m=>stay1 b u (s.s b u e m) z
 have sM:∀b,O.M b->H' b=H1 b:=λb m=>by
  obtain⟨o,e⟩:=r.ok.here H1 b (s.p r.p) m;rw[e,stay1 b o e (nA b m)]
 have pp:O.P H':=r.ok.loc H1 _ sM (s.p r.p);have oth:∀{j b},j≠i->A j b->¬A i b:=λhj a z=>hj (r.dis _ _ _ a z)
 have un:∀b u,H b=some u->unO O A b->unO O 16.9 b:=λb u e f=>⟨f.1,λj z=>by
  rcases z with z|z
  .exact f.2 j z.2
  .rcases(hW b z.2).1 with y|y
   .exact f.2 i y
   .rw[e] at y;cases y⟩
 have tF:∀b u,unO O A b->H b=some u->unO O 16.9 b/\H' b=some u:=λb u f q=>⟨un b u q f,stay b u q (f.2 i) f.1⟩;have mv:∀{v d},Is K 7.7 H v d->Is K (unO O 16.9) H' v d:=λz=>z.to (λb ys f q=>tF b _ f q) λb ys q=>SqT.stay (h:=q) ts;have mvs:∀{v d},IsAll K 7.7 H v d->IsAll K (unO O 16.9) H' v d:=λz=>z.to (λb ys f q=>tF b _ f q) λb ys q=>SqT.stay (h:=q) ts
 have wm:∀b,W b->H₀ b=QZ/\¬O.M b:=λb w=>by
  rcases(hW b w).1 with z|z
  .exact⟨(r.own i b z).1,(r.own i b z).2.2⟩
  .have m:¬O.M b:=λm=>by obtain⟨o,e⟩:=r.ok.here H b r.p m;rw[z] at e;cases e
   exact⟨r.st.s.free m z,m⟩
 refine⟨r.ok,pp,r.p0,⟨λb o hb n=>?_,λ_=>pp,λb u hu hb=>ts b u hu (r.st.t b u hu hb)⟩,λj k b x y=>?_,λj b x=>?_,λj x e=>?_,by rw[ZC,ZC];exact r.len⟩
 .exact stay b o (r.st.s b o hb n) (λz=>by rw[(r.own i b z).1] at hb;cases hb) n
 .rcases x with x|x <;> rcases y with y|y
  .exact r.dis j k b x.2 y.2
  .rcases(hW b y.2).1 with z|z
   .exact absurd (r.dis j i b x.2 z) x.1
   .obtain⟨_,⟨o,q,_⟩,_⟩:=r.own j b x.2;rw[z] at q;cases q
  .rcases(hW b x.2).1 with z|z
   .exact absurd (r.dis k i b y.2 z) y.1
   .obtain⟨_,⟨o,q,_⟩,_⟩:=r.own k b y.2;rw[z] at q;cases q
  .exact x.1.trans y.1.symm
 .rcases x with x|x
  .obtain⟨h0,⟨o,q,ho⟩,m⟩:=r.own j b x.2;exact⟨h0,⟨o,stay b o q (oth x.1 x.2) m,ho⟩,m⟩
  .exact⟨(wm b x.2).1,(hW b x.2).2,(wm b x.2).2⟩
 .by_cases hj:i=j
  .subst hj
   have hi:i<ρ.length:=by
    rcases Y6 i ρ.length with z|z
    .exact z
    .rw[Q9 22.2] at e;cases e
   rw[QC hi] at e;cases e;exact⟨v,QC (by have:=r.len;lia),hR⟩
  .rw[QM hj] at e;obtain⟨w,h1,h2⟩:=r.at_ j x e;have hj':j≠i:=λz=>hj z.symm;refine⟨w,by rw[QM hj];exact h1,?_⟩
   cases x with
   | im d=>exact mv h2
   | own es=>
     obtain⟨b,ys,rfl,hb,hlb,hs⟩:=h2;exact⟨b,ys,rfl,.inl ⟨hj',hb⟩,stay b _ hlb (oth hj' hb) (r.own j b hb).2.2,mvs hs⟩
   | ob=>exact h2
   | scr n=>exact IsS.to (λb u f q=>tF b u f q) h2
   | dct ks=>obtain⟨b,hb,h2⟩:=h2;exact⟨b,.inl ⟨hj',hb⟩,h2.to λu q=>stay b u q (oth hj' hb) (r.own j b hb).2.2⟩
   | gen f ds=>obtain⟨b,xs,e,hb,q,z⟩:=h2;exact⟨b,xs,e,.inl ⟨hj',hb⟩,stay b _ q (oth hj' hb) (r.own j b hb).2.2,mvs z⟩
   | rd f ds=>obtain⟨b,xs,e,hb,q,z⟩:=h2;exact⟨b,xs,e,un b _ q hb,stay b _ q (hb.2 i) hb.1,mvs z⟩
   | exc C ns ds=>obtain⟨xs,e,z⟩:=h2;exact⟨xs,e.to λb u f q=>tF b u f q,mvs z⟩
   | thg T=>exact T.to (λb u f q=>tF b u f q) (λb u w q=>⟨.inl ⟨hj',w⟩,stay b u q (oth hj' w) (r.own j b w).2.2⟩) ts h2
   | thr T=>obtain⟨W',hw,z⟩:=h2;exact⟨W',λb w=>let ⟨f,o,q⟩:=hw b w;⟨un b o q f,o,stay b o q (f.2 i) f.1⟩,T.to (λb u f q=>tF b u f q) (λb u w q=>⟨w,stay b u q ((hw b w).1.2 i) (hw b w).1.1⟩) ts z⟩
theorem Rep.setOwn{i:Nat}(r:5.6)(s:28.3)(hn:H a=none)(hl:H' a=some 2.3)(hf:IsAll K 5.5 H' xs ds)(fl:flats ds=true):
 Rep K O H₀ 6e9 H' (σ.set i 10.0) (ρ.set i 6.9) :=
 r.setX (W:=λb=>b=a) s (λ_ _ e _=>e) (λb e=>by subst e;exact⟨.inr hn,_,hl,.lst⟩) ⟨a,xs,rfl,.inr ⟨rfl,rfl⟩,hl,IsAll.flats (TupStay.refl H') hf fl⟩
theorem Frm.setIm{i:Nat}(s:28.3):Frm O A H 15.4 H':=λa o e u=>⟨s.s a o e u.1,u.1,λj z=>u.2 j z.2⟩
theorem Frm.setOwn{i:Nat}(s:28.3)(hn:H a=none):Frm O A H 6e9 H':=λb o e u=>⟨s.s b o e u.1,u.1,λj z=>by
 rcases z with z|z
 .exact u.2 j z.2
 .rw[z.2,hn] at e;cases e⟩
theorem zqn{i:Nat}:reg A i (A i)=A:=by
 funext j b;refine propext ⟨λz=>?_,λz=>?_⟩
 .rcases z with z|z
  .exact z.2
  .rw[z.1];exact z.2
 .by_cases e:j=i
  .exact .inr ⟨e,e ▸ z⟩
  .exact .inl ⟨e,z⟩
theorem Rep.changeX{i:Nat}(r:5.6)(hv:σ[i]? = some 10.0)(ha:A i a)(ho:OwnO o)(hR:RepV K O A 16.8 i 3.0 y):Rep K O H₀ A 16.8 σ (ρ.set i (some y)):=by
 have hs:σ.set i 10.0=σ:=by
  refine Z6 λj=>?_;rw[List.getElem?_set]
  split
  .rename_i e
   subst e;rw[N3 (Qc.mp hv).1,hv]
  .rfl
 have:=r.setX (i:=i) (v:=.ref a) (W:=A i) (y:=y) (H':=upd H a o) (.refl O H) (λb u e n=>by rw[zac λz=>n (by rw[z];exact ha)];exact e) (λb z=>⟨.inl z,by
  by_cases e:b=a
  .subst e;exact⟨_,zah,ho⟩
  .obtain⟨_,⟨u,q,ou⟩,_⟩:=r.own i b z
   exact⟨u,by rw[zac e];exact q,ou⟩⟩) (by rw[zqn];exact hR)
 rw[zqn,hs] at this;exact this
theorem Rep.up{i:Nat}(r:5.6)(ha:A i a)(h:IsAll K 7.7 H xs ds):IsAll K 7.7 16.8 xs ds :=
 have st:∀b u,H b=some u->¬A i b->upd H a o b=some u:=λb u e n=>by rw[zac λz=>n (by rw[z];exact ha)];exact e
 h.to (λb ys f q=>⟨f,st b _ q (f.2 i)⟩) λb ys q=>SqT.stay (h:=q) (r.tstay st)
theorem Rep.change{i:Nat}(r:5.6)(e:ρ[i]? = some 6.9)(hv:σ[i]? = some 10.0)(ha:A i a)(hs:IsAll K 7.7 H ys es):
 Rep K O H₀ A (upd H a 6.7) σ (ρ.set i (some (.own es))) :=
 r.changeX hv ha .lst ⟨a,ys,rfl,ha,zah,r.up ha hs⟩
theorem Frm.change{i:Nat}(ha:A i a):Frm O A H A 16.8:=λb u e n=>⟨by rw[zac (show b≠a from λz=>n.2 i (by rw[z];exact ha))];exact e,n⟩
theorem Rep.disown{i:Nat}(r:5.6)(e:ρ[i]? = some 6.9):Rep K O H₀ 15.4 H σ (ρ.set i (some (.im 5e5))):=by
 have un:∀a,unO O A a->unO O 15.4 a:=λa u=>⟨u.1,λj z=>u.2 j z.2⟩;refine⟨r.ok,r.p,r.p0,r.st,λj k a x y=>r.dis j k a x.2 y.2,λj a x=>r.own j a x.2,λj x ej=>?_,by rw[ZC];exact r.len⟩
 by_cases hj:i=j
 .subst hj;have hi:i<ρ.length:=(Qc.mp e).1;rw[QC hi] at ej;cases ej;obtain⟨w,h1,h2⟩:=r.at_ i _ e;obtain⟨a,xs,rfl,ha,hl,hs⟩:=h2;exact⟨.ref a,h1,.list ⟨(r.own i a ha).2.2,λj z=>z.1 (r.dis j i a z.2 ha)⟩ hl (hs.weak un)⟩
 .rw[QM hj] at ej;obtain⟨w,h1,h2⟩:=r.at_ j x ej;refine⟨w,h1,?_⟩
  cases x with
  | im d=>exact h2.weak un
  | own fs=>
    obtain⟨b,us,rfl,hb,hlb,hs2⟩:=h2;exact⟨b,us,rfl,14.0,hlb,hs2.weak un⟩
  | ob=>exact h2
  | scr n=>exact IsS.to 9e7 h2
  | dct ks=>obtain⟨b,hb,h2⟩:=h2;exact⟨b,14.0,h2⟩
  | gen f ds=>obtain⟨b,xs,e,hb,q,z⟩:=h2;exact⟨b,xs,e,14.0,q,z.weak un⟩
  | rd f ds=>obtain⟨b,xs,e,hb,q,z⟩:=h2;exact⟨b,xs,e,un b hb,q,z.weak un⟩
  | exc C ns ds=>obtain⟨xs,e,z⟩:=h2;exact⟨xs,e.to λb u f q=>⟨un b f,q⟩,z.weak un⟩
  | thg T=>exact T.to 9e7 (λa u w q=>⟨⟨λz=>hj z.symm,w⟩,q⟩) 2e6 h2
  | thr T=>obtain⟨W,hw,z⟩:=h2;exact⟨W,λa w=>⟨un a (hw a w).1,(hw a w).2⟩,T.to 9e7 (λa u w q=>⟨w,q⟩) 2e6 z⟩
end
section
variable {K:Qa}{O:Ob}
theorem Post.frm(P:Post K O H₀ A H D Dd)(f:Frm O A H A1 H1):Post K O H₀ A1 H1 D Dd :=
 ⟨λA' σ' H' ρ' r g=>P.nx A' σ' H' ρ' r (f.trans g),λA' σ' H' ρ' r g=>P.bk A' σ' H' ρ' r (f.trans g),λA' σ' H' ρ' r g=>P.ct A' σ' H' ρ' r (f.trans g),P.rt⟩
def seqD(g k:DS):DS:=λDd ρ=>g { Dd with nx:=k Dd } ρ
theorem yb4(h:SD K O t g)(h':SD K O u k):SD K O (tSeq t u) (seqD g k):=λH₀ A σ H ρ D Dd r q P=>
 h H₀ A σ H ρ _ _ r q ⟨λA' σ' H' ρ' r' f q'=>h' H₀ A' σ' H' ρ' D Dd r' q' (P.frm f),P.bk,P.ct,P.rt⟩
theorem z4y:SD K O zu6 (λDd ρ=>Dd.nx ρ):=λH₀ A σ H ρ D Dd r q P=>P.nx A σ H ρ r .refl q
def ifS(c:DT)(g k:DS):DS:=λDd ρ=>c ρ λb=>if b=true then g Dd ρ else k Dd ρ
theorem ydt{c:TT}(hc:TD K O c fc)(h:SD K O t g)(h':SD K O u k):SD K O (tIfS c t u) (ifS fc g k):=λH₀ A σ H ρ D Dd r q P=>by
 refine hc σ H ρ _ _ r.seen q λb H1 s1 q1=>?_
 cases b with
 | true=>exact h H₀ A σ H1 ρ D Dd (r.stp s1) q1 25.0
 | false=>exact h' H₀ A σ H1 ρ D Dd (r.stp s1) q1 25.0
def retS(f:DE):DS:=λDd ρ=>f ρ Dd.rt
theorem ych(h:5.1):SD K O (tRet t) (retS f):=λH₀ A σ H ρ D Dd r q P=>by
 refine h σ H ρ _ _ r.seen q λv H1 x s1 o1 q1=>P.rt H1 v x (r.st.trans s1) (o1.ahead r.ok r.p0 r.st) q1
def retO(i:Nat):DS:=λDd ρ=>∃ds,ρ[i]? = some 6.9/\Dd.rt (.n ds)
theorem zyd{i:Nat}:SD K O (tRet (tVar i)) (retO i):=λH₀ A σ H ρ D Dd r q P=>by
 obtain⟨ds,e,q⟩:=q;obtain⟨v,hv,a,xs,rfl,ha,hl,hs⟩:=r.at_ i _ e;exact⟨_,hv,P.rt H _ (.n ds) r.st ⟨a,xs,rfl,(r.own i a ha).1,hl,hs.weak λb u=>u.1⟩ q⟩
def asgS(i:Nat)(f:DE):DS:=λDd ρ=>f ρ λr=>match r with
 | .o d=>flat d=true/\Dd.nx 12.3
 | .n ds=>flats ds=true/\Dd.nx (ρ.set i 6.9)
theorem zhu{i:Nat}(h:5.1):SD K O (tAsg t (zau i)) (asgS i f):=λH₀ A σ H ρ D Dd r q P=>by
 refine h σ H ρ _ _ r.seen q λv H1 x s1 o1 q1=>?_
 cases x with
 | o d=>
   obtain⟨fl,q1⟩:=q1;exact P.nx _ _ H1 _ ((r.stp s1).setIm (Is.flat 24.8 o1 fl)) (.setIm s1) q1
 | n ds=>
   obtain⟨fl,q1⟩:=q1;obtain⟨a,xs,rfl,hn,hl,hs⟩:=o1;exact P.nx _ _ H1 _ (r.setOwn s1 hn hl hs fl) (.setOwn s1 hn) q1
def appS(i:Nat)(f:DE):DS:=λDd ρ=>∃ds,ρ[i]? = some 6.9/\f ρ λr=>flat r.d=true/\ds.length<sizeLine/\Dd.nx (ρ.set i (some (.own (ds ++ [r.d]))))
theorem zxk{i:Nat}(h:5.1):SD K O (zbu (tBM K "list" zci (tVar i) (zal t tNil))) (appS i f):=λH₀ A σ H ρ D Dd r q P=>by
 obtain⟨ds,e,q⟩:=q;obtain⟨v,hv,a,xs,rfl,ha,hl,hs⟩:=r.at_ i _ e;refine⟨_,hv,?_⟩;refine⟨.inl 8e8,?_⟩;refine h σ H ρ _ _ r.seen q λw H1 x s1 o1 zz=>?_;obtain⟨fl,hz,q1⟩:=zz;have r1:=r.stp s1;obtain⟨v1,hv1,a1,xs1,e1,ha1,hl1,hs1⟩:=r1.at_ i _ e;rw[hv] at hv1;cases hv1;cases e1;refine⟨a,xs1,w,rfl,rfl,hl1,by rw[hs1.length];exact hz,?_⟩;have iw:Is K 7.7 H1 w x.d:=Is.flat 24.8 (o1.is r.ok r.p) fl;exact P.nx A σ _ _ (r1.change e hv ha (hs1.snoc iw)) ((Frm.stp s1).trans (.change ha)) q1
end
def GR(K:Qa)(O:Ob)(t:TG)(g:DG):Prop :=
 ∀(H₀:Hp) (A:6.0) (σ:St) (H:Hp) (ρ:DSt) (v:V) (d:GF) (Q:St->Hp->Prop) (Qd:DSt->Prop),Rep K O H₀ A H σ ρ->flat d=true->Is K 7.7 H v d->g d ρ Qd ->
   (∀A' σ' ρ',Rep K O H₀ A' H σ' ρ'->Frm O A H A' H->Qd ρ'->Q σ' H)->t v σ H Q
section
variable {K:Qa}{O:Ob}
theorem z8c{i:Nat}:GR K O (zau i) (gN i):=λH₀ A σ H ρ v d Q Qd r _ h q k=>k _ _ _ (r.setIm h) (.setIm 2.2) q
def GRs(K:Qa)(O:Ob)(t:TGs)(is:0.7):Prop :=
 ∀(H₀:Hp) (A:6.0) (σ:St) (H:Hp) (ρ:DSt) (vs:5.4) (ds:9.5) (Q:St->Hp->Prop) (Qd:DSt->Prop),Rep K O H₀ A H σ ρ->flats ds=true->IsAll K 7.7 H vs ds->gTD is ds ρ Qd ->
   (∀A' σ' ρ',Rep K O H₀ A' H σ' ρ'->Frm O A H A' H->Qd ρ'->Q σ' H)->t vs σ H Q
theorem z7z:GRs K O gNil []:=λH₀ A σ H ρ vs ds Q Qd r _ i h k=>by
 cases i with
 | nil=>exact⟨rfl,k A σ ρ r .refl h⟩
 | cons _ _=>exact h.elim
theorem z0l{i:Nat}{is:0.7}(ht:GRs K O t is):GRs K O (zkc (zau i) t) (i::is):=λH₀ A σ H ρ vs ds Q Qd r fl h q k=>by
 cases h with
 | nil=>exact q.elim
 | cons h1 h2=>
   rw[flats,Q6] at fl;have f1:Frm O A H 15.4 H:=.setIm 2.2;refine⟨_,_,rfl,ht _ _ _ H _ _ _ _ _ (r.setIm h1) fl.2 (IsAll.flats (TupStay.refl H) h2 fl.2) q λA' σ' ρ' r' f q'=>k A' σ' ρ' r' (f1.trans f) q'⟩
def zdg(g:DG)(gb:DS)(Dd:DEnds):List GF->DSt->Prop
 | [],ρ=>Dd.nx ρ
 | d::ds,ρ=>flat d=true/\g d ρ λρ2=>gb { Dd with nx:=zdg g gb Dd ds,ct:=zdg g gb Dd ds,bk:=Dd.nx } ρ2
abbrev DJ:=DSt->(List GF->Prop)->Prop
def SrcR(K:Qa)(O:Ob)(wi:TI)(f:DJ):Prop :=
 ∀(H₀:Hp) (A:6.0) (σ:St) (H:Hp) (ρ:DSt) (R:It->Hp->Prop) (Qd:20.1),Rep K O H₀ A H σ ρ->f ρ Qd ->
   (∀(J:It) (H1:Hp) (ds:9.5) (B:7.6),Walk K O H H1 J ds B->(∀a,B a->unO O A a)->Qd ds->R J H1)->wi σ H R
def newJ(f:DI):DJ:=λρ Q=>f ρ λfr ds=>fr=true/\Q ds
theorem z4g{wi:TI}(h:SrcS K O wi f):SrcR K O wi (newJ f):=λH₀ A σ H ρ R Qd r q k=>by
 refine h σ H ρ _ _ r.seen q λJ H1 ds B fr W hfr ⟨e,q1⟩=>k J H1 ds B W (λa b=>⟨(W.hb a b).1,λj z=>?_⟩) q1;obtain⟨_,⟨xs,q,_⟩,_⟩:=r.own j a z;rw[hfr e a b] at q;cases q
def forS(f:DJ)(g:DG)(gb:DS):DS:=λDd ρ=>f ρ λds=>zdg g gb Dd ds ρ
theorem Rep.tupStay(r:Rep K O H₀ A H1 σ ρ)(f:Frm O A H1 A2 H2):TupStay H1 H2:=λa u hu e=>by
 refine(f a u e ⟨λm=>?_,λj z=>?_⟩).1
 .have mm:=r.ok.mutb H1 a u r.p e m;obtain⟨xs,e1|⟨o,e1⟩⟩:=hu
  .exact mm.1 xs e1
  .exact mm.2 o _ e1
 .obtain⟨_,⟨xs,q,ho⟩,_⟩:=r.own j a z;rw[e] at q;cases q;obtain⟨ys,e1|⟨o,e1⟩⟩:=hu
  .exact(ho ys).1 e1
  .exact(ho ys).2 o e1
theorem ycc{wi:TI}(hs:SrcR K O wi f)(hg:GR K O tg g)(hb:SD K O tb gb):SD K O (tFor wi tg tb) (forS f g gb):=λH₀ A σ H ρ D Dd r q P=>by
 refine hs H₀ A σ H ρ _ _ r q λJ H1 ds B W uB go=>?_;have r1:=r.stp W.st;have f1:Frm O A H A H1:=.stp W.st;refine⟨λi m σ2 H2=>m=ds.length-i/\i<=ds.length/\∃A2 ρ2,Rep K O H₀ A2 H2 σ2 ρ2/\Frm O A H1 A2 H2/\zdg g gb Dd (ds.drop i) ρ2,⟨ds.length,rfl,Qw _,A,ρ,r1,.refl,by simpa using go⟩,?_⟩;rintro i m σ2 H2 ⟨rfl,hi,A2,ρ2,r2,f2,go2⟩;have kB:∀a o,B a->H1 a=some o->H2 a=some o:=λa o b e=>(f2 a o e (uB a b)).1;have ts:TupStay H1 H2:=r1.tupStay f2
 by_cases hlt:i<ds.length
 .right;have hd:ds[i]? = some ds[i]:=Qg hlt;rw[Q4 hlt] at go2;obtain⟨fl,go2⟩:=go2;obtain⟨hgo,hy⟩:=W.item H2 i ds[i] kB ts hd (.inl fl);refine 28.2;obtain⟨sm,ix⟩:=hy x H3 y;have st3:Stp O H2 H3:=.same r2.ok sm;have r3:=r2.stp st3;refine hg H₀ A2 σ2 H3 ρ2 x ds[i] _ _ r3 fl (Is.flat (TupStay.refl H3) ix fl) go2 λA3 σ3 ρ3 r3' f3 q3=>?_;have f13:Frm O A H1 A3 H3:=(f2.trans (.stp st3)).trans f3;refine hb H₀ A3 σ3 H3 ρ3 _ _ r3' q3 ⟨λA' σ' H' ρ' r' f' q'=>23.2,λA' σ' H' ρ' r' f' q'=>P.nx A' σ' H' ρ' r' (f1.trans (f13.trans f')) q',λA' σ' H' ρ' r' f' q'=>23.2,P.rt⟩
 .left;have e:i=ds.length:=by lia
  subst e;rw[ZF] at go2;exact⟨W.stop H2 _ kB ts (Qi _),P.nx A2 σ2 H2 ρ2 r2 (f1.trans f2) go2⟩
def zgf(c:DT)(gb:DS):DS:=λDd ρ=>∃W:Nat->DSt->Prop,(∃m,W m ρ)/\∀m ρ,W m ρ->c ρ λb=>if b=true then gb { Dd with nx:=λρ'=>∃m',m'<m/\W m' ρ',ct:=λρ'=>∃m',m'<m/\W m' ρ',bk:=Dd.nx } ρ else Dd.nx ρ
theorem z1n{c:TT}(hc:TD K O c fc)(hb:SD K O tb gb):SD K O (zgg c tb) (zgf fc gb):=λH₀ A σ H ρ D Dd r q P=>by
 obtain⟨W,⟨m0,w0⟩,turn⟩:=q;refine 15.0;rintro m σ2 H2 ⟨A2,ρ2,r2,f2,w2⟩;refine hc σ2 H2 ρ2 _ _ r2.seen (turn m ρ2 w2) λb H3 s3 q3=>?_;have f3:Frm O A H A2 H3:=f2.trans (.stp s3)
 cases b with
 | true=>
   refine 12.2;exact hb H₀ A2 σ2 H3 ρ2 _ _ (r2.stp s3) q3 14.6
 | false=>exact P.nx A2 σ2 H3 ρ2 (r2.stp s3) f3 q3
end
def spO(K:Qa)(φ:Ob->Prop)(n:Nat)(f:6.8):Sp:=λvs H Q _=>
 ∃(O:Ob) (ds:9.5) (Qr:9e0),O.Ok/\φ O/\O.P H/\ds.length=n/\IsAll K 5.5 H vs ds/\f ds Qr/\∀r,Qr r->∀v H',Stp O H H'->Out K O H H' v r->Q v H'
def spD(K:Qa)(φ:Ob->Prop)(n:Nat)(f:6.8):Sp:=λvs H Q _=>
 ∃(O:Ob) (ds:9.5) (ws:5.4) (Qr:9e0),O.Ok/\φ O/\O.P H/\ds.length=n/\vs=O.v::ws/\IsAll K 5.5 H ws ds/\f ds Qr/\∀r,Qr r->∀v H',Stp O H H'->Out K O H H' v r->Q v H'
def zbz(N:2.4)(rs:List DV):DSt:=rs.map some++Qn (N.length-rs.length) none
section
variable {K:Qa}{O:Ob}
theorem zhs(ok:O.Ok)(p:O.P H)(hl:vs.length=rs.length)(h:∀(i:Nat) r,rs[i]? = some r->∃v,vs[i]? = some v/\((∃d,r = .im d/\Is K 5.5 H v d)\/(r = .ob/\v=O.v))):
 Rep K O H 2e7 H (L2.start N vs) (zbz N rs):=by
 refine⟨ok,p,p,.refl _ _,λ_ _ _ z=>z.elim,λ_ _ z=>z.elim,λi r e=>?_,?_⟩
 .unfold zbz at e
  by_cases hi:i<rs.length
  .rw[Q7 1e7,Ql] at e
   cases q:rs[i]? with
   | none=>rw[q] at e;cases e
   | some r'=>
     rw[q] at e;have e':r'=r:=Zy (Zy e);subst e';obtain⟨v,hv,hh⟩:=h i r' q;refine⟨v,?_,?_⟩
     .unfold L2.start;rw[Q7 (by rw[Qf,hl];exact hi),Ql,hv];rfl
     .rcases hh with ⟨d,rfl,hd⟩|⟨rfl,hd⟩
      .exact hd.weak λa u=>⟨u,λj z=>z⟩
      .exact hd
  .rw[QN 1e7,ZA] at e
   split at e <;> cases e
 .unfold zbz L2.start;rw[Qk,Qk,Qf,Qf,Zo,Zo,hl]
theorem yda(h:SD K O t g)(ok:O.Ok)(p:O.P H)(ia:IsAll K 5.5 H vs ds)
 (hg:g { nx:=λ_=>Qr 22.5,rt:=Qr } (zbz N (ds.map .im))) (hQ:3e8):t { nx:=λ_ H'=>Q .non H',rt:=Q } (L2.start N vs) H:=by
 refine h H _ _ H _ _ _ (zhs ok p (by rw[Qf];exact ia.length) λi r e=>?_) hg 14.2;rw[Ql] at e;obtain⟨d,hd,rfl⟩:=Qv.mp e;obtain⟨v,hv,iv⟩:=ia.get hd;exact⟨v,hv,.inl ⟨d,rfl,iv⟩⟩
theorem ydr(h:SD K O t g)(ok:O.Ok)(p:O.P H)(ia:IsAll K 5.5 H ws ds)
 (hg:g { nx:=λ_=>Qr 22.5,rt:=Qr } (zbz N (.ob::ds.map .im))) (hQ:3e8):t { nx:=λ_ H'=>Q .non H',rt:=Q } (L2.start N (O.v::ws)) H:=by
 refine h H _ _ H _ _ _ (zhs ok p (by rw[Qq,Qq,Qf,ia.length]) λi r e=>?_) hg 14.2
 cases i with
 | zero=>cases e;exact⟨O.v,rfl,.inr ⟨rfl,rfl⟩⟩
 | succ i=>
   rw[J5,Ql] at e;obtain⟨d,hd,rfl⟩:=Qv.mp e;obtain⟨v,hv,iv⟩:=ia.get hd;exact⟨v,by rw[J5];exact hv,.inl ⟨d,rfl,iv⟩⟩
def calD(n:Nat)(f:6.8)(g:DA):DE:=λρ Q=>g ρ λds=>ds.length=n/\f ds Q
theorem z6m{n:Nat}(hφ:φ O)(h:AD K O t g):ED K O (zdd (spO K φ n f) [] E t) (calD n f g):=λσ H ρ Q Qd S q k=>by
 refine h σ H ρ _ _ S q λvs H1 ds s1 is zz=>?_;obtain⟨hn,q1⟩:=zz;rw[Zd];exact⟨O,ds,Qd,S.ok,hφ,s1.p S.p,hn,is,q1,λr qr v H' s2 o2=>k v H' r 4.9 4e5 qr⟩
def calO(i:Nat)(n:Nat)(f:6.8)(g:DA):DE:=λρ Q=>ρ[i]? = some (some .ob)/\g ρ λds=>ds.length=n/\f ds Q
theorem z1m{i n:Nat}(hφ:φ O)(h:AD K O t g):ED K O (zdd (spD K φ n f) [] E (zal (tVar i) t)) (calO i n f g):=λσ H ρ Q Qd S q k=>by
 obtain⟨e,q⟩:=q;obtain⟨v,hv,hh⟩:=S.at_ i _ e;refine⟨v,hv,?_⟩;refine h σ H ρ _ _ S q λvs H1 ds s1 is zz=>?_;obtain⟨hn,q1⟩:=zz;show spD K φ n f ((v::vs) ++ []) H1 Q E;rw[Zd];exact⟨O,ds,vs,Qd,S.ok,hφ,s1.p S.p,hn,by rw[show v=O.v from hh],is,q1,λr qr v H' s2 o2=>k v H' r 4.9 4e5 qr⟩
theorem zmq{φ:Ob->Prop}{n:Nat}{f:6.8}{ps:2.4}(hn:ps.length=n):∀vs H Q E,spO K φ n f vs H Q E->vs.length=ps.length:=λvs H Q E zz=>by obtain⟨O,ds,_,_,_,_,h,is,_⟩:=zz;rw[is.length,h,hn]
theorem zms{φ:Ob->Prop}{n:Nat}{f:6.8}{ps:2.4}(hn:ps.length=n+1):∀vs H Q E,spD K φ n f vs H Q E->vs.length=ps.length:=λvs H Q E zz=>by obtain⟨O,ds,ws,_,_,_,_,h,e,is,_⟩:=zz;rw[e,Qq,is.length,h,hn]
end
section
variable {X:Cx}
def rEqD(K:Qa)(neg:Bool):R2:=λx y H Q=>∃F G d e,Is K F H x d/\Is K G H y e/\d.canLay0=true/\e.canLay0=true/\d.depth<=60/\Q (.bl (if neg then !PyData.eqv d e else QB d e)) H
theorem yab(hu:25.7):OpR X (GT .Eq) (rEqD X.K false):=by
 intro pins s σ H x y v u Q I rx ry h;obtain⟨F,G,d,e,i1,i2,h1,h2,h3,q⟩:=h;obtain⟨as,ra⟩:=i1.reads I rx;obtain⟨bs,rb⟩:=i2.reads I ry;exact SeqAt.compareEq_reads ra rb h1 h2 0.0 10.7
theorem ybz(hu:25.7):OpR X (GT .NotEq) (rEqD X.K true):=by
 intro pins s σ H x y v u Q I rx ry h;obtain⟨F,G,d,e,i1,i2,h1,h2,h3,q⟩:=h;obtain⟨as,ra⟩:=i1.reads I rx;obtain⟨bs,rb⟩:=i2.reads I ry;exact SeqAt.compareNe_reads ra rb h1 h2 0.0 10.7
def rInD(K:Qa)(neg:Bool):R2:=λx y H Q=>∃F G d es,Is K F H x d/\(Is K G H y (.list es)\/Is K G H y 27.3)/\d.canLay0=true/\Zw es=true/\d.depth<=60 /\
 Q (.bl 7e4) H
theorem ybj(hu:25.7):OpR X (GT .In) (rInD X.K false):=by
 intro pins s σ H x y v u Q I rx ry h;obtain⟨F,G,d,es,i1,i2,h1,h2,h3,q⟩:=h;obtain⟨as,ra⟩:=i1.reads I rx;rcases i2 with i2|i2
 .obtain⟨bs,rb⟩:=i2.reads I ry;exact SeqAt.in_list_reads rb ra h2 h1 0.0 10.7
 .obtain⟨bs,rb⟩:=i2.reads I ry;exact SeqAt.in_tuple_reads rb ra h2 h1 0.0 10.7
theorem zvv(hu:25.7):OpR X (GT .NotIn) (rInD X.K true):=by
 intro pins s σ H x y v u Q I rx ry h;obtain⟨F,G,d,es,i1,i2,h1,h2,h3,q⟩:=h;obtain⟨as,ra⟩:=i1.reads I rx;rcases i2 with i2|i2
 .obtain⟨bs,rb⟩:=i2.reads I ry;exact SeqAt.notIn_list_reads rb ra h2 h1 0.0 10.7
 .obtain⟨bs,rb⟩:=i2.reads I ry;exact SeqAt.notIn_tuple_reads rb ra h2 h1 0.0 10.7
theorem zl2:∀{bs:List Bool} {us:2.8},Vals (bs.map V.bl) us->us=bs.map ZL
 | [],_,r=>by cases r;rfl
 | b::bs,_,r=>by
   rw[Qy] at r
   cases r with
   | cons h t=>rw[zl2 t,show _=ZL b from h];rfl
theorem zvc{bs:List Bool}:(QH bs.length).all (λi=>bs[i]?.getD false)=bs.all id:=by
 apply Jp.mpr;rw[ZS,ZS];constructor
 .intro h x hx;obtain⟨i,hi,e⟩:=YT.mp hx;have:=h i 1e7;rw[Qg hi] at this;rw[<- e];simpa using this
 .intro h i hi;have hi':i<bs.length:=by simpa using hi
  rw[Qg hi'];simpa using h _ (QQ hi')
theorem zxn{bs:List Bool}:(QH bs.length).any (λi=>bs[i]?.getD false)=bs.any id:=by
 apply Jp.mpr;rw[Ji,Ji];constructor
 .rintro⟨i,hi,h⟩;have hi':i<bs.length:=by simpa using hi
  rw[Qg hi'] at h;exact⟨_,QQ hi',by simpa using h⟩
 .rintro⟨x,hx,h⟩;obtain⟨i,hi,e⟩:=YT.mp hx;exact⟨i,by simpa using hi,by rw[Qg hi,e];simpa using h⟩
def rAll(any:Bool):List V->Hp->VK->Prop:=λxs H Q=>∃(p:Addr) (bs:List Bool),xs = [.ref p]/\H p=some (.lst (bs.map V.bl))/\Q (.bl (if any then bs.any id else bs.all id)) H
theorem zyf(hc:6e4):CallR X (.builtin "all") (rAll false):=by
 intro pins s σ H xs us Q I r h;obtain⟨p,bs,rfl,hH,q⟩:=h;obtain⟨u,rfl,ru⟩:=Vals.one r;cases ru;obtain⟨z,its,n,rv,hl,e⟩:=I.lstM hH;have ei:=zl2 rv;subst ei;have pl:s.heap.IsList p (bs.map ZL).toArray:=⟨_,e,rfl,_,rfl⟩;have hne:p≠s.heap.objs.size:=Qz (Qs e);refine call_all_walk (TW pl ?_);refine⟨s.heap.objs.size,_,_,_,_,_,λi=>bs[i]?.getD false,rfl,U9 (A:=X.A.in1) 1e3 _ p hne (bs.map ZL).toArray,⟨⟨_,Qp _ rfl,rfl,rfl⟩,_,Qb _ e,rfl,_,rfl⟩,?_,λh' tk kk=>?_⟩
 .intro i v s' Q' E' hv hq;have hv:(bs.map ZL).toArray[i]? = some v:=hv;rw[YF,Ql] at hv;obtain⟨b,hb,rfl⟩:=Qv.mp hv;have hq:Q' (bs[i]?.getD false) s':=hq;rw[hb] at hq;exact Tj hq
 .have I1:Inv X pins σ H 3.5:=I.kept λb o eb=>kk b o (by simp;exact Qz (Qs eb)) (Qb _ eb);refine⟨.bl _,H,I1,?_,q⟩;show ZL _=ZL _;rw[Qu,Qf,zvc];rfl
theorem zwq(hc:6e4):CallR X (.builtin "any") (rAll true):=by
 intro pins s σ H xs us Q I r h;obtain⟨p,bs,rfl,hH,q⟩:=h;obtain⟨u,rfl,ru⟩:=Vals.one r;cases ru;obtain⟨z,its,n,rv,hl,e⟩:=I.lstM hH;have ei:=zl2 rv;subst ei;have pl:s.heap.IsList p (bs.map ZL).toArray:=⟨_,e,rfl,_,rfl⟩;have hne:p≠s.heap.objs.size:=Qz (Qs e);refine call_any_walk (TW pl ?_);refine⟨s.heap.objs.size,_,_,_,_,_,λi=>bs[i]?.getD false,rfl,U9 (A:=X.A.in1) 1e3 _ p hne (bs.map ZL).toArray,⟨⟨_,Qp _ rfl,rfl,rfl⟩,_,Qb _ e,rfl,_,rfl⟩,?_,λh' tk kk=>?_⟩
 .intro i v s' Q' E' hv hq;have hv:(bs.map ZL).toArray[i]? = some v:=hv;rw[YF,Ql] at hv;obtain⟨b,hb,rfl⟩:=Qv.mp hv;have hq:Q' (bs[i]?.getD false) s':=hq;rw[hb] at hq;exact Tj hq
 .have I1:Inv X pins σ H 3.5:=I.kept λb o eb=>kk b o (by simp;exact Qz (Qs eb)) (Qb _ eb);refine⟨.bl _,H,I1,?_,q⟩;show ZL _=ZL _;rw[Qu,Qf,zxn];rfl
theorem zhc:∀{ys:2.4} {us:2.8},Vals 7e0 us->Nv us ys
 | [],_,r=>by cases r;exact .nil
 | y::ys,_,r=>by
   rw[Qy] at r
   cases r with
   | cons h t=>obtain⟨tk,rfl⟩:=h;exact .cons y tk (zhc t)
theorem zex:∀{ys:2.4} {us:2.8},Nv us ys->Vals 7e0 us
 | _,_,.nil=>.nil
 | _,_,.cons y t r=>.cons ⟨t,rfl⟩ (zex r)
def zk4:V->List V->Hp->VK->Prop:=λx vs H Q=>∃sep p ys,x = .str sep/\vs = [.ref p]/\H p=some (.lst 7e0)/\(ys.map (·.length)).sum+ys.length * sep.length<=16777216/\Q (.str (J7 sep ys)) H
theorem z9b:MtM X "str.join" zk4:=by
 intro pins s σ H x vs v us Q I rx rv h;obtain⟨sep,p,ys,rfl,rfl,hH,hz,q⟩:=h;obtain⟨t,rfl⟩:=rx;obtain⟨u,rfl,ru⟩:=rv.one;cases ru;obtain⟨z,its,n,r,hl,e⟩:=I.lstM hH;exact join_list ⟨_,e,rfl,_,rfl⟩ (by simpa using zhc r) hz λt' k=>17.7
def zvk:List V->Hp->VK->Prop:=λxs H Q=>∃p ys,xs = [.ref p]/\H p=some (.lst 7e0)/\ys.length<64/\∀zs l,zs.Perm ys->Nm zs=true->H l=none->Q 17.9 (upd H l (.lst (zs.map V.str)))
theorem zun:CallR X 20.0 zvk:=by
 intro pins s σ H xs us Q I r h;obtain⟨p,ys,rfl,hH,hz,q⟩:=h;obtain⟨u,rfl,ru⟩:=Vals.one r;cases ru;obtain⟨z,its,n,rv,hl,e⟩:=I.lstM hH;refine sorted_strs (ss:=ys) ⟨_,e,rfl,_,rfl⟩ (zhc rv) (by rw[<- hl,Qf];exact hz) λout zs h1 h2 h3=>?_;obtain⟨c,he⟩:=sortedAll_at s.heap its out;have hn:H 3.3=none:=I.hok.fresh (ZG _);refine⟨.ref _,_,I.laid (a:=s.heap.objs.size+1) (o:=.lst (zs.map V.str)) (t':=s.toks) (λb o eb=>sortedAll_old eb) (ZG _) ?_,rfl,q zs _ h2 h3 hn⟩;refine⟨?_,out.toList,c,zex h1,by simpa using he⟩;rw[Qf,h2.length_eq];have:sizeLine=16777216:=GK;lia
theorem zt2(h:ItemsOf P acc ys.length)(hv:∀i v,P i v->∃y,ys[i]? = some y/\RelV y v):Vals ys acc.toList:=by
 have go:∀(k:Nat) (zs:5.4) (l:2.8),zs.length=l.length->(∀(i:Nat) v,l[i]? = some v->∃y,zs[i]? = some y/\RelV y v)->Vals zs l:=by
  intro k zs l
  induction l generalizing zs with
  | nil=>intro e _;cases zs with
    | nil=>exact .nil
    | cons _ _=>simp at e
  | cons a l ih=>intro e hh;cases zs with
    | nil=>simp at e
    | cons z zs=>
      obtain⟨y,h1,h2⟩:=hh 0 a rfl;simp at h1;subst h1;exact .cons h2 (ih zs 9.0 λi v ev=>by simpa using hh (i+1) v (by simpa using ev))
 refine go 0 ys acc.toList (by have e:=h.1;simp[e]) λi v e=>hv i v (h.2 i v 9.0)
def zqu:List V->Hp->VK->Prop:=λxs H Q=>∃x:Str,xs = [.str x]/\x.cps.size<=sizeLine/\∀l,H l=none->Q 17.9 (upd H l (.lst (x.cps.toList.map λc=>V.str (sg c))))
theorem zla(hc:6e4):CallR X 18.9 zqu:=by
 intro pins s σ H xs us Q I r h;obtain⟨x,rfl,hz,q⟩:=h;obtain⟨u,rfl,ru⟩:=Vals.one r;obtain⟨t,rfl⟩:=ru;refine call_list_str 1e3 x t (λh' tk acc c kk e it=>?_) hz;refine⟨.ref _,_,I.laid (a:=s.heap.objs.size) (o:=.lst (x.cps.toList.map λc=>V.str (sg c))) kk (Qi _) ?_,rfl,q _ I.fresh⟩;refine⟨by simpa using hz,acc.toList,c,zt2 (P:=SignAt x) (by simpa using it) λi v hv=>?_,by simpa using e⟩;obtain⟨cc,uu,h1,rfl⟩:=hv;exact⟨.str (sg cc),by rw[Ql];simp[h1],⟨uu,rfl⟩⟩
def z2f(K:Qa):List V->Hp->VK->Prop:=λxs H Q=>∃v F d,xs = [v]/\Is K F H v d/\d.showable=true/\d.hasDict=false/\d.depth<=60/\d.shown.length<=sizeLine/\Q (.str d.shown) H
theorem zts(hg:X.A.guards=some [])(hu:25.7):CallR X (.builtin "repr") (z2f X.K):=by
 intro pins s σ H xs us Q I r h;obtain⟨v,F,d,rfl,i,h1,h2,h3,h4,q⟩:=h;obtain⟨u,rfl,ru⟩:=Vals.one r;have fin:∀h' u tk,(∀b o,s.heap.get? b=some o->h'.get? b=some o)->EP X pins σ Q (.str d.shown u) 3.5:=λh' u tk kk=>⟨.str _,H,I.kept kk,⟨_,rfl⟩,q⟩;have fin':∀u tk,EP X pins σ Q (.str d.shown u) { s with toks:=tk }:=λu tk=>17.7;obtain⟨as,ra⟩:=i.reads I ru
 cases i with
 | none=>cases ru;exact PySem.P.repr_of_none (fin' _ _)
 | bool b=>cases ru;exact PySem.P.repr_of_bool (fin' _ _)
 | int n=>obtain⟨t,rfl⟩:=ru;exact PySem.P.repr_of_int (by simpa[JK] using h1) (fin' _ _)
 | str x=>obtain⟨t,rfl⟩:=ru;exact PySem.P.repr_of_str (fin' _ _) h4
 | list _ _ _=>cases ru;exact repr_of_reads' ra h1 (λz=>by rw[h2] at z;cases z) hg 0.0 (λ_ _ e=>e) fin h4
 | tuple _ _=>cases ru;exact repr_of_reads' ra h1 (λz=>by rw[h2] at z;cases z) hg 0.0 (λ_ _ e=>e) fin h4
end
def tx(l:0.7):Str:=⟨l.toArray⟩
theorem zx0(x:Str):tx x.cps.toList=x:=by cases x;simp[tx]
theorem zax(l:0.7):(tx l).cps.toList=l:=by simp[tx]
theorem zwz(l:0.7):(tx l).length=l.length:=by simp[tx,YL]
def cutL{α:Type}(xs:6.5)(lo hi:3e4):List α:=(xs.drop (HT.sIx xs.length 0 lo)).take 14.4
theorem zjt(n d:Nat)(v:Int):max (0:Int) (min (if v<0 then v+n else v) n)=((HT.sIx n d 3e6:Nat):Int):=by
 rw[<- HT.clip_eq v n d]
 by_cases h:v<0
 .rw[N3 h,N3 h];lia
 .rw[N4 h,N4 h];lia
theorem zrv(lo hi:3e4)(n:Nat):Ve lo hi 1 n=(QH (HT.sIx n n hi-HT.sIx n 0 lo)).map λk=>HT.sIx n 0 lo+k:=by
 have e1:(match lo with|none=>(0:Int)|some i=>max 0 (min (if i<0 then i+(n:Int) else i) n))=((HT.sIx n 0 lo:Nat):Int):=by
  cases lo with
  | none=>rfl
  | some v=>exact zjt n 0 v
 have e2:(match hi with|none=>(n:Int)|some i=>max 0 (min (if i<0 then i+(n:Int) else i) n))=((HT.sIx n n hi:Nat):Int):=by
  cases hi with
  | none=>rfl
  | some v=>exact zjt n n v
 have e0:Ve lo hi 1 n=sliceRange ((HT.sIx n 0 lo:Nat):Int) ((HT.sIx n n hi:Nat):Int) 1:=by
  rw[<- e1,<- e2];cases lo <;> cases hi <;> rfl
 rw[e0];generalize HT.sIx n 0 lo=a;generalize HT.sIx n n hi=b;simp only[sliceRange,show((1:Int) > 0)=True from by simp,NC]
 by_cases hlt:(a:Int)<b
 .have e3:(((b:Int)-a+1-1) / 1).toNat=b-a:=by first|lia|(simp;done)|(simp;lia)
  simp only[hlt,NC,e3];refine Yk λk _=>?_;lia
 .have:b-a=0:=by lia
  simp[hlt,this]
theorem zv9{α:Type}(l:6.5):∀(n a:Nat),a+n<=l.length->((QH n).map λk=>a+k).filterMap (λi=>l[i]?)=(l.drop a).take n
 | 0,_,_=>by simp
 | n+1,a,h=>by
   have hlt:a+n<l.length:=by lia
   rw[List.range_succ,QG,List.filterMap_append,zv9 l n a 0.0,List.take_add_one,Zk];simp[Qg hlt]
section
variable {X:Cx}
def rSlS:V->Option Int->Option Int->Hp->VK->Prop:=λx lo hi H Q=>∃z:Str,x = .str z/\z.length<=sizeLine/\Q (.str (tx (cutL z.cps.toList lo hi))) H
theorem yae:SlR X rSlS:=by
 intro pins s σ H x v vl vu lo hi sl Q I rx hs pl pu h;obtain⟨z,rfl,hz,q⟩:=h;obtain⟨t,rfl⟩:=rx;refine⟨"str",_,PySem.F.slot_str_getitem.lookup,MM s z t,?_⟩;have hl:z.cps.toList.length=z.length:=by simp[YL]
 have hi':HT.sIx z.length z.length hi<=z.length:=HT.sIx_le _ _ (Qi _) hi
 have key:∀l u:Option (Int×Tok),l.map (·.1)=lo->u.map (·.1)=hi->s.heap.IsSlice sl l u none->wpAny 0.5 X.A (Mk (.str z t) (.ref sl)) 7.0 X.xe s:=by
  intro l u el eu hsl
  have e:MV z l u none=(QH (HT.sIx z.length z.length hi-HT.sIx z.length 0 lo)).map λk=>HT.sIx z.length 0 lo+k:=by
   unfold MV;rw[el,eu];exact zrv lo hi z.length
  have ec:tx (cutL z.cps.toList lo hi)=⟨((MV z l u none).filterMap (z.cps[·]?)).toArray⟩:=by
   rw[e];unfold cutL tx;rw[hl]
   by_cases hij:HT.sIx z.length 0 lo<=HT.sIx z.length z.length hi
   .have p:=zv9 z.cps.toList (HT.sIx z.length z.length hi-HT.sIx z.length 0 lo) (HT.sIx z.length 0 lo) (by rw[hl];lia);rw[<- p];simp
   .have:HT.sIx z.length z.length hi-HT.sIx z.length 0 lo=0:=by lia
    rw[this];simp
  refine wpAny_getItem_str_slice hsl rfl ?_;unfold sliceMade
  split
  .rename_i hc
   have hw:(MV z l u none).length=z.length:=by simpa using hc
   have ex:tx (cutL z.cps.toList lo hi)=z:=by
    rw[e,Qf,Z7] at hw;unfold cutL;rw[hl];have h0:HT.sIx z.length 0 lo=0\/z.length=0:=by lia
    rcases h0 with h0|h0
    .rw[h0] at hw ⊢;rw[Vm,VL (by rw[hl];lia)];exact zx0 z
    .have hn:z.cps.toList = []:=YU (by rw[hl];exact h0);rw[hn];simp only[List.drop_nil,Gw];rw[<- hn];exact zx0 z
   exact⟨.str _,H,I,⟨t,by rw[ex]⟩,q⟩
  .rw[<- ec]
   have hlen:(tx (cutL z.cps.toList lo hi)).length<=sizeLine:=by
    rw[zwz];unfold cutL;rw[Zt,Z0,hl];lia
   first
    | exact 17.7
    | exact⟨hlen,.str _,H,I.tok _,⟨_,rfl⟩,q⟩
    | exact λ_=>17.7
 obtain⟨o,ho,hc,hd⟩:=hs
 cases pl with
 | none=>cases pu with
   | none=>exact key none none rfl rfl ⟨o,ho,hc,hd⟩
   | int j t'=>exact key none (some (j,t')) rfl rfl ⟨o,ho,hc,hd⟩
 | int i ti=>cases pu with
   | none=>exact key (some (i,ti)) none rfl rfl ⟨o,ho,hc,hd⟩
   | int j t'=>exact key (some (i,ti)) (some (j,t')) rfl rfl ⟨o,ho,hc,hd⟩
def z3z(K:Qa):V->Option Int->Option Int->Hp->VK->Prop:=λx lo hi H Q=>∃a xs,x = .ref a/\SqT K H a xs/\(HT.sIx xs.length 0 lo=0/\HT.sIx xs.length xs.length hi=xs.length)/\Q 3.0 H
theorem zhk{prog:GJ}{w:GL}{A:GN}{E:1.7}{s:GH}{t sl:Addr}{items:10.3}{vl vu:GE}{lo hi:3e4}{Q:1.7}(ht:IsTup s.heap t items)(hs:s.heap.IsSliceOf sl vl vu .none)(pl:ME vl lo)(pu:ME vu hi)
 (hw:HT.sIx items.size 0 lo=0/\HT.sIx items.size items.size hi=items.size) (h:Q (.ref t) s):wpAny 1.3 A (Mk (.ref t) (.ref sl)) Q E s:=by
 obtain⟨os,hos,hcs,hds⟩:=id hs;have hTs:s.TypeIs (.ref sl) "slice" := ⟨os,hos,hcs⟩;unfold Mk
 try with_reducible refine GU ?_
 first|refine GD 0e6|skip
 refine GD (wpAny_sequenceKey ht.typeIs 0.4 ?_)
 refine GD (To (name:=Qj "__getitem__") ht.typeIs Zn
  (Ta Zn ht.typeIs entry_tuple_getitem ?_ (args_tuple_getitem _ _)))
 show wpAny _ _ (Vj (.ref t) >>= _) _ _ s;refine GD (tupleItemsOf_ ht ?_);refine GD (Tn hTs ?_);rw[N3 0.4];refine GD (HT.sliceApplied_gen hs pl pu ?_)
 have hno:(((HT.sIx items.size 0 lo:Nat):Int) == 0 && (1:Int) == 1 && (HT.sIx items.size items.size hi-HT.sIx items.size 0 lo) == items.size)=true:=by
  rw[hw.1,hw.2];simp
 show wpAny _ _ (if(((HT.sIx items.size 0 lo:Nat):Int) == 0 && (1:Int) == 1 && (HT.sIx items.size items.size hi-HT.sIx items.size 0 lo) == items.size)=true then _ else _) _ _ s;rw[N3 hno];obtain⟨o,ho,hc,n,hd⟩:=id ht;refine GD ?_;unfold Builtin.Tuple.tupleIsExact;refine GD (Tn ht.typeIs 0e6);show wpAny _ _ (if((JB "tuple") == (JB "tuple"))=true then _ else _) _ _ s;rw[N3 0.4];exact GD (Tz (GG ⟨_,rfl,GG h⟩))
theorem sl_tupW:SlR X (z3z X.K):=by
 intro pins s σ H x v vl vu lo hi sl Q I rx hs pl pu h;obtain⟨a,xs,rfl,hx,hw,q⟩:=h;cases rx;obtain⟨its,r,ht,hz⟩:=I.tuple hx;have hlen:its.toArray.size=xs.length:=by rw[Qu];exact r.length.symm
 exact⟨"tuple",_,Zn.lookup,ht.typeIs,zhk ht hs pl pu (by rw[hlen];exact hw) ⟨.ref a,H,I,rfl,q⟩⟩
def rSl(K:Qa):V->Option Int->Option Int->Hp->VK->Prop:=λx lo hi H Q=>rSlL K x lo hi H Q\/rSlT K x lo hi H Q\/z3z K x lo hi H Q\/rSlS x lo hi H Q
theorem z9r:SlR X (rSl X.K):=sl_list.or (sl_tup.or (sl_tupW.or yae))
def zw4(K:Qa):R2:=λx y H Q=>∃a b ys,x = .ref a/\y = .ref b/\SqT K H a []/\SqT K H b ys/\Q (.ref b) H
theorem z2b:OpR X (binaryOp .Add) (zw4 X.K):=by
 intro pins s σ H x y v u Q I rx ry h;obtain⟨a,b,ys,rfl,rfl,ha,hb,q⟩:=h;cases rx;cases ry;obtain⟨its,r1,p1,_⟩:=I.tuple ha;obtain⟨its2,r2,p2,_⟩:=I.tuple hb;cases r1;obtain⟨⟨cls,dd,data,sl⟩,ho,hc,n,hd⟩:=id p1;obtain⟨⟨cls2,dd2,data2,sl2⟩,ho2,hc2,n2,hd2⟩:=id p2;simp only at hc hd hc2 hd2;subst hc hd hc2 hd2
 exact Ni ⟨_,ho,rfl⟩ ⟨_,ho2,rfl⟩ MA Nb Y1 Yv (Yo _ _)
  (tuple_addW0 a b _ its2.toArray n n2 dd dd2 sl sl2 0.3) ⟨ho,ho2,⟨.ref b,H,I,rfl,q⟩⟩
end
section
variable {K:Qa}{O:Ob}{F:7.6}{H:Hp}
theorem zep:∀{vs:5.4} {ys:2.4},IsAll K F H vs 22.7->vs=ys.map V.str
 | _,[],h=>by cases h;rfl
 | _,y::ys,h=>by
   rw[Qy] at h
   cases h with
   | cons h1 h2=>cases h1;rw[zep h2];rfl
theorem zjn:∀{vs:5.4} {bs:List Bool},IsAll K F H vs (bs.map .bool)->vs=bs.map V.bl
 | _,[],h=>by cases h;rfl
 | _,y::ys,h=>by
   rw[Qy] at h
   cases h with
   | cons h1 h2=>cases h1;rw[zjn h2];rfl
theorem zha:∀(ys:2.4),IsAll K F H 7e0 22.7
 | []=>.nil
 | y::ys=>.cons 8e0 (zha ys)
theorem zny{i:Int}{d:GF}(h:IsAll K F H vs ds)(e:atI ds i=some d):∃v,atI vs i=some v/\Is K F H v d:=by
 unfold atI at e ⊢;rw[h.length]
 cases q:ixN ds.length i with
 | none=>rw[q] at e;cases e
 | some j=>
   rw[q] at e;obtain⟨v,hv,iv⟩:=h.get (i:=j) e;exact⟨v,hv,iv⟩
theorem zh7(h:IsAll K F H vs ds)(lo hi:3e4):IsAll K F H (cutV vs lo hi) (cutL ds lo hi):=by
 unfold cutV cutL;rw[h.length];exact(h.drop _).take _
theorem zb1(ok:O.Ok)(hp:H p=none)(h:IsAll K 5.5 H vs ds):Stp O H (upd H p (.lst vs))/\Out K O H (upd H p (.lst vs)) 6e6 (.n ds):=by
 have s:Stp O H (upd H p (.lst vs)):=.new ok hp _;exact⟨s,p,vs,rfl,hp,zah,h.stp s 8e6 8e6⟩
theorem ziw(ok:O.Ok)(hp:H p=none)(h:IsAll K 5.5 H vs ds):Stp O H (upd H p (.tup vs))/\Out K O H (upd H p (.tup vs)) 6e6 (.o 2e1):=by
 have s:Stp O H (upd H p (.tup vs)):=.new ok hp _;exact⟨s,Is.tuple (.of zah) (h.stp s 8e6 8e6)⟩
def okD(d:GF):Bool:=d.canLay0 && decide (d.depth<=60)
def eqF(neg:Bool):GF->GF->Option R:=λd e=>if(okD d && e.canLay0)=true then some (.o (.bool (if neg then !PyData.eqv d e else QB d e))) else none
theorem zk5(neg:Bool):OpD K O (rEqD K neg) (fn2 (eqF neg)):=λH x y d e Q Qd ok p ix iy ⟨r,hr,q⟩ k=>by
 unfold eqF at hr
 split at hr
 .rename_i hc
  cases hr;simp only[Q6,okD,N8] at hc;exact⟨_,_,d,e,ix,iy,hc.1.1,hc.2,hc.1.2,k _ H (.o _) 2.2 (Is.bool _) q⟩
 .cases hr
def inF(neg:Bool):GF->GF->Option R:=λd e=>match d,e with
 | .str x,.str y=>some (.o (.bool (if neg then !(!(Zs y x 0 y.length 1).isEmpty) else !(Zs y x 0 y.length 1).isEmpty)))
 | d,.list es=>if(okD d && Zw es)=true then some (.o (.bool 7e4)) else none
 | d,.tuple es=>if(okD d && Zw es)=true then some (.o (.bool 7e4)) else none
 | _,_=>none
def rInU(K:Qa):R2:=λx y H Q=>(∃i j,x = .str i/\y = .str j/\Q (.bl 14.3) H)\/rInD K false x y H Q
def zmo(K:Qa):R2:=λx y H Q=>(∃i j,x = .str i/\y = .str j/\Q (.bl (!14.3)) H)\/rInD K true x y H Q
theorem ybm(hu:25.7):OpR X (GT .In) (rInU X.K):=op_in_str.or (ybj hu)
theorem zv0(hu:25.7):OpR X (GT .NotIn) (zmo X.K):=op_notin_str.or (zvv hu)
theorem zss{neg:Bool}{d:GF}(ix:Is K 5.5 H x d)(iy:Is K 5.5 H y e)(q:fn2 (inF neg) d e Qd)(k:∀v H' r,Stp O H H'->Out K O H H' v r->Qd r->Q v H'):
 (∃i j,x = .str i/\y = .str j/\Q (.bl (if neg then !14.3 else !(Zs j i 0 j.length 1).isEmpty)) H)\/rInD K neg x y H Q:=by
 obtain⟨r,hr,q⟩:=q;unfold inF at hr
 split at hr
 .rename_i a b
  cases ix;cases iy;cases hr;exact .inl ⟨a,b,rfl,rfl,k _ H (.o _) 2.2 (Is.bool _) q⟩
 .split at hr
  .rename_i hc
   cases hr;simp only[Q6,okD,N8] at hc;exact .inr ⟨_,_,_,_,ix,.inl iy,hc.1.1,hc.2,hc.1.2,k _ H (.o _) 2.2 (Is.bool _) q⟩
  .cases hr
 .split at hr
  .rename_i hc
   cases hr;simp only[Q6,okD,N8] at hc;exact .inr ⟨_,_,_,_,ix,.inr iy,hc.1.1,hc.2,hc.1.2,k _ H (.o _) 2.2 (Is.bool _) q⟩
  .cases hr
 .cases hr
theorem zvr:OpD K O (rInU K) (fn2 (inF false)):=λH x y d e Q Qd ok p ix iy q k=>zss ix iy q k
theorem znx:OpD K O (zmo K) (fn2 (inF true)):=λH x y d e Q Qd ok p ix iy q k=>zss (neg:=true) ix iy q k
def intF(g:Int->Int->GF):GF->GF->Option R
 | .int i,.int j=>some (.o (g i j))
 | _,_=>none
theorem zj4(h:∀i j H,Is K 5.5 H (g i j) (G i j)):OpD K O (rI0 g) (fn2 (intF G)):=λH x y d e Q Qd ok p ix iy ⟨r,hr,q⟩ k=>by
 unfold intF at hr
 split at hr
 .cases ix;cases iy;cases hr;exact⟨_,_,rfl,rfl,k _ H (.o _) 2.2 (h _ _ H) q⟩
 .cases hr
theorem ycd:OpD K O (rI0 λi j=>.bl (decide (i<j))) (fn2 (intF λi j=>.bool (decide (i<j)))):=zj4 λ_ _ _=>.bool _
theorem yao:OpD K O (rI0 λi j=>.bl (decide (i<=j))) (fn2 (intF λi j=>.bool (decide (i<=j)))):=zj4 λ_ _ _=>.bool _
theorem yco:OpD K O 23.4 (fn2 (intF λi j=>.bool (decide (j<i)))):=zj4 λ_ _ _=>.bool _
def isNF(neg:Bool):GF->GF->2.0->Prop:=λd e Q=>e = .none/\Q (.o (.bool (match d with | .none=>!neg|_=>neg)))
theorem Is.non{d:GF}(h:Is K F H v d):decide (v = .non)=(match d with | .none=>true|_=>false):=by cases h <;> rfl
theorem z4c:OpD K O (λx y H Q=>y = .non/\Q (.bl (decide (x = .non))) H) (isNF false):=λH x y d e Q Qd ok p ix iy ⟨e1,q⟩ k=>by
 subst e1;cases iy;refine⟨rfl,k _ H (.o _) 2.2 ?_ q⟩;rw[ix.non];cases d <;> exact Is.bool _
theorem zpk:OpD K O (λx y H Q=>y = .non/\Q (.bl (!decide (x = .non))) H) (isNF true):=λH x y d e Q Qd ok p ix iy ⟨e1,q⟩ k=>by
 subst e1;cases iy;refine⟨rfl,k _ H (.o _) 2.2 ?_ q⟩;rw[ix.non];cases d <;> exact Is.bool _
def z3w(K:Qa):R2:=λx y H Q=>rI0 (λi j=>.int (i+j)) x y H Q\/(∃i j,x = .str i/\y = .str j/\i.length+j.length<=sizeLine/\Q (.str (i++j)) H)\/rCat x y H Q\/z2e K x y H Q\/zw4 K x y H Q
theorem z7g: OpR X (binaryOp .Add) (z3w X.K):=op_add.or (op_add_str.or (op_cat.or (op_catT.or z2b)))
def addF:GF->GF->Option R:=λd e=>match d,e with
 | .int i,.int j=>some (.o (.int (i+j)))
 | .str x,.str y=>if x.length+y.length<=sizeLine then some (.o (.str (x++y))) else none
 | .list a,.list b=>if a.length+b.length<=sizeLine then some (.n (a++b)) else none
 | .tuple a,.tuple b=>if a.length+b.length<=sizeLine then some (.o (.tuple (a++b))) else none
 | _,_=>none
theorem z7b:OpD K O (z3w K) (fn2 addF):=λH x y d e Q Qd ok p ix iy ⟨r,hr,q⟩ k=>by
 unfold addF at hr
 split at hr
 .cases ix;cases iy;cases hr;exact .inl ⟨_,_,rfl,rfl,k _ H (.o _) 2.2 (Is.int _) q⟩
 .split at hr
  .rename_i hz
   cases ix;cases iy;cases hr;exact .inr (.inl ⟨_,_,rfl,rfl,hz,k _ H (.o _) 2.2 22.4 q⟩)
  .cases hr
 .split at hr
  .rename_i hz
   cases hr
   cases ix with
   | list f1 h1 s1=>
     cases iy with
     | list f2 h2 s2=>
       refine .inr (.inr (.inl ⟨_,_,_,_,rfl,rfl,h1,h2,by rw[s1.length,s2.length];exact hz,λp' hp=>?_⟩));obtain⟨a1,a2⟩:=zb1 ok hp (s1.append s2);exact k _ _ _ a1 a2 q
  .cases hr
 .split at hr
  .rename_i hz
   cases hr
   cases ix with
   | tuple h1 s1=>
     cases iy with
     | tuple h2 s2=>
       rename_i a xs b ys
       cases xs with
       | nil=>
         cases s1;exact .inr (.inr (.inr (.inr ⟨a,b,ys,rfl,rfl,h1,h2,k _ H (.o _) 2.2 (Is.tuple h2 s2) q⟩)))
       | cons z zs=>
         refine .inr (.inr (.inr (.inl ⟨a,b,_,ys,rfl,rfl,h1,h2,by simp,by rw[s1.length,s2.length];exact hz,λe=>?_,λ_ p' hp=>?_⟩)))
         .subst e;cases s2;rw[Zd] at q;exact k _ H (.o _) 2.2 (Is.tuple h1 s1) q
         .obtain⟨a1,a2⟩:=ziw ok hp (s1.append s2);exact k _ _ _ a1 a2 q
  .cases hr
 .cases hr
def idxF:GF->GF->Option R:=λd e=>match d,e with
 | .list ds,.int i=>(atI ds i).map .o
 | .tuple ds,.int i=>(atI ds i).map .o
 | .str x,.int i=>if x.length<=sizeLine then(atI x.cps.toList i).map λc=>.o (.str (sg c)) else none
 | _,_=>none
theorem z6r:OpD K O (rIx K) (fn2 idxF):=λH x y d e Q Qd ok p ix iy ⟨r,hr,q⟩ k=>by
 unfold idxF at hr
 split at hr
 .obtain⟨z,hz,rfl⟩:=Qv.mp hr;cases iy
  cases ix with
  | list f1 h1 s1=>
    obtain⟨v,hv,iv⟩:=zny s1 hz;exact .inl ⟨_,_,_,v,rfl,rfl,.of h1,hv,k v H (.o z) 2.2 iv q⟩
 .obtain⟨z,hz,rfl⟩:=Qv.mp hr;cases iy
  cases ix with
  | tuple h1 s1=>
    obtain⟨v,hv,iv⟩:=zny s1 hz;exact .inr (.inl ⟨_,_,_,v,rfl,rfl,h1,hv,k v H (.o z) 2.2 iv q⟩)
 .split at hr
  .rename_i hl
   obtain⟨c,hc,rfl⟩:=Qv.mp hr;cases iy;cases ix;exact .inr (.inr ⟨_,_,c,rfl,rfl,hl,hc,k _ H (.o _) 2.2 22.4 q⟩)
  .cases hr
 .cases hr
abbrev DO:=DSt->(Option Int->Prop)->Prop
def OD(K:Qa)(O:Ob)(t:TO)(f:DO):Prop :=
 ∀(σ:St) (H:Hp) (ρ:DSt) (Q:Option Int->Hp->Prop) (Qd:Option Int->Prop),Seen K O H σ ρ->f ρ Qd->(∀o H',Stp O H H'->Qd o->Q o H')->t σ H Q
def noO:DO:=λ_ Q=>Q none
def zui(f:DE):DO:=λρ Q=>f ρ λr=>∃i,r.d = .int i/\Q (some i)
theorem z6a:OD K O zsz noO:=λσ H ρ Q Qd S h k=>k none H 2.2 h
theorem z7t(h:5.1):OD K O (zom t) (zui f):=λσ H ρ Q Qd S hf k=>by
 refine h σ H ρ _ _ S hf λv H1 r s1 o1 zz=>?_;obtain⟨i,e,q⟩:=zz;have iv:=o1.is S.ok S.p;rw[e] at iv;cases iv;exact⟨i,rfl,k (some i) H1 s1 q⟩
def slcF(lo hi:3e4):GF->Option R
 | .list ds=>some (.n (cutL ds lo hi))
 | .tuple ds=>some (.o (.tuple (cutL ds lo hi)))
 | .str x=>if x.length<=sizeLine then some (.o (.str (tx (cutL x.cps.toList lo hi)))) else none
 | _=>none
def slD(f:DE)(a b:DO):DE:=λρ Q=>f ρ λr=>a ρ λlo=>b ρ λhi=>∃s,slcF lo hi r.d=some s/\Q s
theorem zz9(h:5.1)(ha:OD K O tl a)(hb:OD K O th b):ED K O (tSl (rSl K) t tl th) (slD f a b):=λσ H ρ Q Qd S hf k=>by
 refine h σ H ρ _ _ S hf λv H1 r s1 o1 q1=>?_;refine ha σ H1 ρ _ _ 5e4 q1 λlo H2 s2 q2=>?_;refine hb σ H2 ρ _ _ ((S.stp s1).stp s2) q2 λhi H3 s3 zz=>?_;obtain⟨s,hr,q⟩:=zz;have st:=(s1.trans s2).trans s3;have iv:Is K 5.5 H3 v r.d:=Is.stp (s2.trans s3) 8e6 8e6 (o1.is S.ok S.p);revert hr;generalize r.d=d at iv;intro hr;unfold slcF at hr
 split at hr
 .cases hr
  cases iv with
  | list f1 h1 z1=>
    refine .inl ⟨_,_,rfl,.of h1,λp hp=>?_⟩;obtain⟨a1,a2⟩:=zb1 S.ok hp (zh7 z1 lo hi);exact k _ _ _ (st.trans a1) (Out.ahead S.ok S.p st a2) q
 .cases hr
  cases iv with
  | tuple h1 z1=>
    rename_i a' xs
    by_cases hw:HT.sIx xs.length 0 lo=0/\HT.sIx xs.length xs.length hi=xs.length
    .refine .inr (.inr (.inl ⟨a',xs,rfl,h1,hw,k _ H3 (.o _) st ?_ q⟩))
     have e:cutV xs lo hi=xs:=by
      unfold cutV;rw[hw.1,hw.2,Vm,VM,ZJ]
     have z2:=zh7 z1 lo hi;rw[e] at z2;exact Is.tuple h1 z2
    .refine .inr (.inl ⟨a',xs,rfl,h1,hw,λp hp=>?_⟩);obtain⟨a1,a2⟩:=ziw S.ok hp (zh7 z1 lo hi);exact k _ _ _ (st.trans a1) (Out.ahead S.ok S.p st a2) q
 .split at hr
  .rename_i hl
   cases hr;cases iv;exact .inr (.inr (.inr ⟨_,rfl,hl,k _ H3 (.o _) st 22.4 q⟩))
  .cases hr
 .cases hr
def lenF:List GF->Option R
 | [.str x]=>if x.length<=sizeLine then some (.o (.int x.length)) else none
 | [.list ds]=>some (.o (.int ds.length))
 | [.tuple ds]=>some (.o (.int ds.length))
 | _=>none
theorem zbe{d:GF}(h:IsAll K F H vs [d]):∃v,vs = [v]/\Is K F H v d:=by
 cases h with
 | cons h1 h2=>cases h2;exact⟨_,rfl,h1⟩
theorem yap:zfg K O (λxs H Q=>∃x n,xs = [x]/\LenV K x H n/\Q (.int n) H) (fn1 lenF):=λH vs ds Q Qd ok p is ⟨r,hr,q⟩ k=>by
 unfold lenF at hr
 split at hr
 .split at hr
  .rename_i hl
   obtain⟨v,rfl,iv⟩:=zbe is;cases iv;cases hr;exact⟨_,_,rfl,⟨hl,rfl⟩,k _ H (.o _) 2.2 (Is.int _) q⟩
  .cases hr
 .obtain⟨v,rfl,iv⟩:=zbe is;cases hr
  cases iv with
  | list f1 h1 s1=>exact⟨_,_,rfl,.inl ⟨_,.of h1,s1.length.symm⟩,k _ H (.o _) 2.2 (Is.int _) q⟩
 .obtain⟨v,rfl,iv⟩:=zbe is;cases hr
  cases iv with
  | tuple h1 s1=>exact⟨_,_,rfl,.inr ⟨_,h1,s1.length.symm⟩,k _ H (.o _) 2.2 (Is.int _) q⟩
 .cases hr
def allD(any:Bool):List GF->2.0->Prop:=λds Q=>∃bs:List Bool,ds = [.list (bs.map .bool)]/\Q (.o (.bool (if any then bs.any id else bs.all id)))
theorem zvz(any:Bool):zfg K O (rAll any) (allD any):=λH vs ds Q Qd ok p is ⟨bs,e,q⟩ k=>by
 subst e;obtain⟨v,rfl,iv⟩:=zbe is
 cases iv with
 | list f1 h1 s1=>
   rw[zjn s1] at h1;exact⟨_,bs,rfl,h1,k _ H (.o _) 2.2 (Is.bool _) q⟩
def zyr(K:Qa):List V->Hp->VK->Prop:=λxs H Q=>zqu xs H Q\/(∃p ys,xs = [.ref p]/\(SqL K H p ys\/SqT K H p ys)/\∀l,H l=none->Q 17.9 (upd H l 6.7))
theorem zuj(hc:6e4):CallR X 18.9 (zyr X.K):=(zla hc).or zrf
def zum:List GF->Option R
 | [.str x]=>if x.length<=sizeLine then some (.n (sgs x)) else none
 | [.list ds]=>some (.n ds)
 | [.tuple ds]=>some (.n ds)
 | _=>none
theorem zw2(x:Str):IsAll K F H (x.cps.toList.map λc=>V.str (sg c)) (sgs x):=by
 have e:=zha (K:=K) (F:=F) (H:=H) (x.cps.toList.map sg);rw[QK,QK] at e;exact e
theorem z6o:zfg K O (zyr K) (fn1 zum):=λH vs ds Q Qd ok p is ⟨r,hr,q⟩ k=>by
 unfold zum at hr
 split at hr
 .split at hr
  .rename_i hl
   obtain⟨v,rfl,iv⟩:=zbe is;cases iv;cases hr;refine .inl ⟨_,rfl,hl,λl hl=>?_⟩;obtain⟨a1,a2⟩:=zb1 (K:=K) ok hl (zw2 _);exact k _ _ _ a1 a2 q
  .cases hr
 .obtain⟨v,rfl,iv⟩:=zbe is;cases hr
  cases iv with
  | list f1 h1 s1=>
    refine .inr ⟨_,_,rfl,.inl (.of h1),λl hl=>?_⟩;obtain⟨a1,a2⟩:=zb1 ok hl s1;exact k _ _ _ a1 a2 q
 .obtain⟨v,rfl,iv⟩:=zbe is;cases hr
  cases iv with
  | tuple h1 s1=>
    refine .inr ⟨_,_,rfl,.inr h1,λl hl=>?_⟩;obtain⟨a1,a2⟩:=zb1 ok hl s1;exact k _ _ _ a1 a2 q
 .cases hr
def tupF:List GF->Option R
 | [.list ds]=>some (.o 2e1)
 | [.tuple ds]=>some (.o 2e1)
 | _=>none
theorem zzv:zfg K O (λxs H Q=>∃p ys,xs = [.ref p]/\((SqL K H p ys/\∀l,H l=none->Q 17.9 (upd H l (.tup ys)))\/(SqT K H p ys/\Q 6e6 H))) (fn1 tupF):=λH vs ds Q Qd ok p is ⟨r,hr,q⟩ k=>by
 unfold tupF at hr
 split at hr
 .obtain⟨v,rfl,iv⟩:=zbe is;cases hr
  cases iv with
  | list f1 h1 s1=>
    refine⟨_,_,rfl,.inl ⟨.of h1,λl hl=>?_⟩⟩;obtain⟨a1,a2⟩:=ziw ok hl s1;exact k _ _ _ a1 a2 q
 .obtain⟨v,rfl,iv⟩:=zbe is;cases hr
  cases iv with
  | tuple h1 s1=>exact⟨_,_,rfl,.inr ⟨h1,k _ H (.o _) 2.2 (Is.tuple h1 s1) q⟩⟩
 .cases hr
def zor:List GF->Option R
 | [d]=>if(d.showable && !d.hasDict && decide (d.depth<=60) && decide (d.shown.length<=sizeLine))=true then some (.o (.str d.shown)) else none
 | _=>none
theorem z5b:zfg K O (z2f K) (fn1 zor):=λH vs ds Q Qd ok p is ⟨r,hr,q⟩ k=>by
 unfold zor at hr
 split at hr
 .split at hr
  .rename_i hc
   cases hr;obtain⟨v,rfl,iv⟩:=zbe is;simp only[Q6,N8,Y7] at hc;exact⟨v,_,_,rfl,iv,hc.1.1.1,hc.1.1.2,hc.1.2,hc.2,k _ H (.o _) 2.2 22.4 q⟩
  .cases hr
 .cases hr
def z3o(fo:DE)(fa:DE):DE:=λρ Q=>fo ρ λr0=>∃sep,r0.d = .str sep/\fa ρ λr=>∃ys:List Str,r.d = .list 22.7/\(ys.map (·.length)).sum+ys.length * sep.length<=16777216/\Q (.o (.str (J7 sep ys)))
theorem z5a{to:TE}(ho:ED K O to fo)(ha:ED K O ta fa):ED K O (tBM K "str" zk4 to (zal ta tNil)) (z3o fo fa):=λσ H ρ Q Qd S hf k=>by
 refine ho σ H ρ _ _ S hf λv H1 r0 s1 o1 zz=>?_;obtain⟨sep,e0,q1⟩:=zz;have i0:=o1.is S.ok S.p;rw[e0] at i0;cases i0;refine 4.1;refine ha σ H1 ρ _ _ 5e4 q1 λw H2 r s2 o2 zz=>?_;obtain⟨ys,e,hz,q⟩:=zz;have i1:=o2.is S.ok (s1.p S.p);rw[e] at i1
 cases i1 with
 | list f1 h1 z1=>
   rw[zep z1] at h1;exact⟨sep,_,ys,rfl,rfl,h1,hz,k _ H2 (.o _) 4.9 22.4 q⟩
end
structure Ctx3{ι:Type}(P:GJ)(w:GL)(K:Qa)(mg:0.1)(base:Heap)(k:Nat)(X:0e1):Prop where
 hP:∀i,(X i).prog=P
 hw:∀i,(X i).w=w
 hK:∀i,(X i).K=K
 hmg:∀i,(X i).mg=mg
 hb:∀i,(X i).base=base
 calm:∀i,(X i).calm=true
 room:∀i,Room k (X i).A
 xe:∀i,(X i).xe=λ_ _=>False
def E3{ι κ:Type}(K:Qa)(X:0e1)(O:1e5)(e:Expr)(f:DE):Prop:=∃t,(∀i,PE (X i) e t)/\∀j,ED K (O j) t f
def T3{ι κ:Type}(K:Qa)(X:0e1)(O:1e5)(e:Expr)(f:DT):Prop:=∃t,(∀i,PT (X i) e t)/\∀j,TD K (O j) t f
def W3{ι κ:Type}(K:Qa)(X:0e1)(O:1e5)(e:Expr)(f:DT):Prop:=∃t,(∀i,PW (X i) e t)/\∀j,TD K (O j) t f
def A3{ι κ:Type}(K:Qa)(X:0e1)(O:1e5)(es:8.6)(f:DA):Prop:=∃t,(∀i,PA (X i) es t)/\∀j,AD K (O j) t f
def I3{ι κ:Type}(K:Qa)(X:0e1)(O:1e5)(tg e:Expr)(f:DI):Prop:=∃t,(∀i,PI (X i) tg e t)/\∀j,SrcS K (O j) t f
def J3{ι κ:Type}(K:Qa)(X:0e1)(O:1e5)(tg e:Expr)(f:DJ):Prop:=∃t,(∀i,PI (X i) tg e t)/\∀j,SrcR K (O j) t f
def S3{ι κ:Type}(K:Qa)(X:0e1)(O:1e5)(s:Stmt)(g:DS):Prop:=∃t,(∀i,PS (X i) s t)/\∀j,SD K (O j) t g
def Ss3{ι κ:Type}(K:Qa)(X:0e1)(O:1e5)(s:6e0)(g:DS):Prop:=∃t,(∀i,PSs (X i) s t)/\∀j,SD K (O j) t g
def O3{ι κ:Type}(K:Qa)(X:0e1)(O:1e5)(e:Option Expr)(f:DO):Prop:=∃t,(∀i,PO (X i) e t)/\∀j,OD K (O j) t f
def G3{ι:Type}(K:Qa)(X:0e1)(h:Nat)(tg:Expr)(g:DG):Prop:=∃t,(∀i,PG (X i) tg t)/\(∀O:Ob,GS K O t g)/\(∀O:Ob,GR K O t g)/\OwnG h t
section
variable {ι κ:Type}{P:GJ}{w:GL}{K:Qa}{mg:0.1}{base:Heap}{k:Nat}{X:0e1}{O:1e5}{a b c:Expr}{fa fb fc:DE}{pos:Pos}
theorem zaa(n:Nat)(hN:3.1:=by intro i;rfl)(hv:9.4:=by intro i;first|exact Or.inl rfl|exact Or.inr 8.4|exact Or.inr 8.3)
 (hd:1.5:=by decide) (hcd:6.4:=by decide):E3 K X O 17.1 (vD n):=⟨_,λi=>zaj (hN i) (hv i) hd hcd,λj=>z9y⟩
theorem zai{n:Int}{j:Nat}:E3 K X O (.Constant (.int n) j pos) (cD (.int n)):=⟨_,λi=>za2,λj=>zwd⟩
theorem zak{j:Nat}:E3 K X O (.Constant 0e2 j pos) (cD 0e2):=⟨_,λi=>zbk,λj=>z9m⟩
theorem e_bl{x:Bool}{j:Nat}:E3 K X O (.Constant (.bool x) j pos) (cD (.bool x)):=⟨_,λi=>z3b,λj=>yc1⟩
theorem zfr{j:Nat}:E3 K X O (.Constant .none j pos) (cD .none):=⟨_,λi=>ycr,λj=>yaq⟩
theorem e_op(ho:∀i,OpR (X i) (binaryOp op) r)(hd:∀j,OpD K (O j) r F)(ha:1.6)(hb:3.7):E3 K X O (.BinOp a op b pos) (opDE F fa fb) :=
 let ⟨_,p1,d1⟩:=ha;let ⟨_,p2,d2⟩:=hb;⟨_,λi=>za8 (ho i) (p1 i) (p2 i),λj=>zoz (hd j) (d1 j) (d2 j)⟩
theorem zaz(C:0.8)(ha:1.6)(hb:3.7):E3 K X O (.BinOp a .Add b pos) (opDE (fn2 addF) fa fb):=e_op (λi=>by have h:=z7g (X:=X i);rw[C.hK] at h;exact h) (λ_=>z7b) ha hb
theorem zk7(ho:∀i,OpR (X i) (GT op) r)(hd:∀j,OpD K (O j) r F)(ha:1.6)(hb:3.7)(hm:Tf op b=false):E3 K X O 19.1 (opDE F fa fb) :=
 let ⟨_,p1,d1⟩:=ha;let ⟨_,p2,d2⟩:=hb;⟨_,λi=>z6t (ho i) (p1 i) (p2 i) hm,λj=>zoz (hd j) (d1 j) (d2 j)⟩
theorem zeo(ho:∀i,OpR (X i) (GT op) r)(hd:∀j,OpD K (O j) r F)(ha:1.6)(hb:3.7)(hm:Tf op b=false):T3 K X O 19.1 (bD (opDE F fa fb)) :=
 let ⟨_,p1,d1⟩:=ha;let ⟨_,p2,d2⟩:=hb;⟨_,λi=>zf5 (ho i) (p1 i) (p2 i) hm,λj=>yct (zoz (hd j) (d1 j) (d2 j))⟩
theorem z2t(C:0.8):∀i,OpR (X i) (GT .Eq) (rEqD K false):=λi=>by have h:=yab (X:=X i) (C.room i).units;rw[C.hK] at h;exact h
theorem z3r(C:0.8):∀i,OpR (X i) (GT .NotEq) (rEqD K true):=λi=>by have h:=ybz (X:=X i) (C.room i).units;rw[C.hK] at h;exact h
theorem z4a(C:0.8):∀i,OpR (X i) (GT .In) (rInU K):=λi=>by have h:=ybm (X:=X i) (C.room i).units;rw[C.hK] at h;exact h
theorem zp6(C:0.8):∀i,OpR (X i) (GT .NotIn) (zmo K):=λi=>by have h:=zv0 (X:=X i) (C.room i).units;rw[C.hK] at h;exact h
theorem e_eq(C:0.8)(ha:1.6)(hb:3.7):E3 K X O (.Compare a [.Eq] [b] pos) (opDE (fn2 (eqF false)) fa fb):=zk7 (z2t C) (λ_=>zk5 false) ha hb (zbx b)
theorem e_ne(C:0.8)(ha:1.6)(hb:3.7):E3 K X O (.Compare a [.NotEq] [b] pos) (opDE (fn2 (eqF true)) fa fb):=zk7 (z3r C) (λ_=>zk5 true) ha hb (zbx b)
theorem e_in(C:0.8)(ha:1.6)(hb:3.7)(hm:Tf .In b=false:=by rfl):E3 K X O (.Compare a [.In] [b] pos) (opDE (fn2 (inF false)) fa fb):=zk7 (z4a C) (λ_=>zvr) ha hb hm
theorem z6w(C:0.8)(ha:1.6)(hb:3.7)(hm:Tf .NotIn b=false:=by rfl):E3 K X O (.Compare a [.NotIn] [b] pos) (opDE (fn2 (inF true)) fa fb):=zk7 (zp6 C) (λ_=>znx) ha hb hm
theorem z7s(ha:1.6)(hb:3.7):E3 K X O (.Compare a [.IsNot] [b] pos) (opDE (isNF true) fa fb):=zk7 (λi=>zst) (λ_=>zpk) ha hb (zbx b)
theorem t_eq(C:0.8)(ha:1.6)(hb:3.7):T3 K X O (.Compare a [.Eq] [b] pos) (bD (opDE (fn2 (eqF false)) fa fb)):=zeo (z2t C) (λ_=>zk5 false) ha hb (zbx b)
theorem t_ne(C:0.8)(ha:1.6)(hb:3.7):T3 K X O (.Compare a [.NotEq] [b] pos) (bD (opDE (fn2 (eqF true)) fa fb)):=zeo (z3r C) (λ_=>zk5 true) ha hb (zbx b)
theorem t_lt(ha:1.6)(hb:3.7):T3 K X O (.Compare a [.Lt] [b] pos) (bD (opDE (fn2 (intF λi j=>.bool (decide (i<j)))) fa fb)):=zeo (λi=>ydq) (λ_=>ycd) ha hb (zbx b)
theorem t_le(ha:1.6)(hb:3.7):T3 K X O (.Compare a [.LtE] [b] pos) (bD (opDE (fn2 (intF λi j=>.bool (decide (i<=j)))) fa fb)):=zeo (λi=>ydu) (λ_=>yao) ha hb (zbx b)
theorem t_gt(ha:1.6)(hb:3.7):T3 K X O (.Compare a [.Gt] [b] pos) (bD (opDE (fn2 (intF λi j=>.bool (decide (j<i)))) fa fb)):=zeo (λi=>zue) (λ_=>yco) ha hb (zbx b)
theorem t_in(C:0.8)(ha:1.6)(hb:3.7)(hm:Tf .In b=false:=by rfl):T3 K X O (.Compare a [.In] [b] pos) (bD (opDE (fn2 (inF false)) fa fb)):=zeo (z4a C) (λ_=>zvr) ha hb hm
theorem z8b(C:0.8)(ha:1.6)(hb:3.7)(hm:Tf .NotIn b=false:=by rfl):T3 K X O (.Compare a [.NotIn] [b] pos) (bD (opDE (fn2 (inF true)) fa fb)):=zeo (zp6 C) (λ_=>znx) ha hb hm
theorem t_is(ha:1.6)(hb:3.7):T3 K X O (.Compare a [.Is] [b] pos) (bD (opDE (isNF false) fa fb)):=zeo (λi=>ybe) (λ_=>z4c) ha hb (zbx b)
theorem z7d(ha:1.6)(hb:3.7):T3 K X O (.Compare a [.IsNot] [b] pos) (bD (opDE (isNF true) fa fb)):=zeo (λi=>zst) (λ_=>zpk) ha hb (zbx b)
variable {ft fu:DT}{rest:8.6}
theorem zc4(ha:1.6)(he:∀i whole,isTrue a (X i).env whole=25.5:=by intro _ _;rfl):T3 K X O a (bD fa):=let ⟨_,p,d⟩:=ha;⟨_,λi=>ybg (p i) (he i),λj=>z6z (d j)⟩
theorem zkv(h:T3 K X O a ft):T3 K X O (.UnaryOp .Not a pos) (notT ft):=let ⟨_,p,d⟩:=h;⟨_,λi=>yb2 (p i),λj=>ya9 (d j)⟩
theorem zqv(h:T3 K X O a ft):W3 K X O (.BoolOp .And [a] pos) ft:=let ⟨_,p,d⟩:=h;⟨_,λi=>zsd (p i),d⟩
theorem z2y(h:T3 K X O a ft):W3 K X O (.BoolOp .Or [a] pos) ft:=let ⟨_,p,d⟩:=h;⟨_,λi=>yce (p i),d⟩
theorem zon(h:T3 K X O a ft)(h':W3 K X O 27.1 fu):W3 K X O 24.2 (andT ft fu):=let ⟨_,p,d⟩:=h;let ⟨_,p2,d2⟩:=h';⟨_,λi=>zzd (p i) (p2 i),λj=>z9j (d j) (d2 j)⟩
theorem w_or(h:T3 K X O a ft)(h':W3 K X O (.BoolOp .Or (b::rest) pos) fu):W3 K X O (.BoolOp .Or (a::b::rest) pos) (orT ft fu):=let ⟨_,p,d⟩:=h;let ⟨_,p2,d2⟩:=h';⟨_,λi=>yd4 (p i) (p2 i),λj=>ydo (d j) (d2 j)⟩
theorem t_w(h:W3 K X O a ft):T3 K X O a ft:=let ⟨_,p,d⟩:=h;⟨_,λi=>(p i).pt,d⟩
theorem ydn(h:1.6):E3 K X O (.BoolOp op [a] pos) fa:=let ⟨_,p,d⟩:=h;⟨_,λi=>ybn (p i),d⟩
theorem yc3(h:1.6)(h':E3 K X O 27.1 fb):E3 K X O 24.2 (andV fa fb):=let ⟨_,p,d⟩:=h;let ⟨_,p2,d2⟩:=h';⟨_,λi=>yc0 (p i) (p2 i),λj=>z8h (d j) (d2 j)⟩
theorem yc4(h:1.6):E3 K X O (.UnaryOp .Not a pos) (notV fa):=let ⟨_,p,d⟩:=h;⟨_,λi=>zvt (p i),λj=>z6k (d j)⟩
theorem e_if(hc:T3 K X O c ft)(ha:1.6)(hb:3.7):E3 K X O (.IfExp c a b pos) (ifD ft fa fb):=let ⟨_,p,d⟩:=hc;let ⟨_,p1,d1⟩:=ha;let ⟨_,p2,d2⟩:=hb;⟨_,λi=>z0e (p i) (p1 i) (p2 i),λj=>ydw (d j) (d1 j) (d2 j)⟩
variable {es:8.6}{ga:DA}
theorem zad:A3 K X O [] aNil:=⟨_,λi=>za0,λj=>zpg⟩
theorem zab(ha:1.6)(hr:A3 K X O es ga)(hs:17.2:=by intro i;rfl):A3 K X O 6e8 (zbl fa ga):=let ⟨_,p,d⟩:=ha;let ⟨_,p2,d2⟩:=hr;⟨_,λi=>zao (p i) (p2 i) (hs i),λj=>zmv (d j) (d2 j)⟩
theorem zbr{n:Nat}(h:A3 K X O es ga):E3 K X O (.Tuple es n pos) (tupD ga):=let ⟨_,p,d⟩:=h;⟨_,λi=>zym (p i),λj=>zyl (d j)⟩
theorem zb2(h:A3 K X O es ga):E3 K X O (.List es pos) (lstD ga):=let ⟨_,p,d⟩:=h;⟨_,λi=>zw1 (p i),λj=>ybr (d j)⟩
theorem zat(C:0.8)(ha:1.6)(hb:3.7)(hs:zmy b:=by intro _ _;rfl):E3 K X O (.Subscript a b pos) (opDE (fn2 idxF) fa fb) :=
 let ⟨_,p1,d1⟩:=ha;let ⟨_,p2,d2⟩:=hb;⟨tOp (rIx K) _ _,λi=>by have h:=z2q (pos:=pos) (zv7 (X:=X i)) (p1 i) (p2 i) hs;rw[C.hK] at h;exact h,λj=>zoz z6r (d1 j) (d2 j)⟩
theorem zbo:O3 K X O none noO:=⟨_,λi=>z8r,λj=>z6a⟩
theorem za1(ha:1.6):O3 K X O (some a) (zui fa):=let ⟨_,p,d⟩:=ha;⟨_,λi=>zly (p i),λj=>z7t (d j)⟩
theorem za5(C:0.8){lo hi:Option Expr}{fl fh:DO}{p2:Pos}(ha:1.6)(hl:O3 K X O lo fl)(hh:O3 K X O hi fh):E3 K X O (.Subscript a (.Slice lo hi none p2) pos) (slD fa fl fh) :=
 let ⟨_,p1,d1⟩:=ha;let ⟨_,q2,d2⟩:=hl;let ⟨_,q3,d3⟩:=hh;⟨tSl (rSl K) _ _ _,λi=>by have h:=zqk (pos:=pos) (p2:=p2) (z9r (X:=X i)) (p1 i) (q2 i) (q3 i);rw[C.hK] at h;exact h,λj=>zz9 (d1 j) (d2 j) (d3 j)⟩
theorem zo5{x:Str}{id:String}{r:List V->Hp->VK->Prop}{F:6.8}{p:Pos}(C:0.8)(hc:∀i,CallR (X i) 13.9 r)(hd:∀j,zfg K (O j) r F)(hv:GY x=some 13.9)(hm:mg x=none)(ha:A3 K X O 6e8 ga)
 (hg:8e5:=by intro i;rfl) (hn:20.9 := by decide) (hdb:1.5:=by decide) (he:17.2:=by intro i;rfl) (hpl:15.6:=by intro i;rfl) :
 E3 K X O 25.4 (zcf F ga):=let ⟨_,q,d⟩:=ha;⟨_,λi=>zfb (hc i) (hg i) (by rw[C.hmg];exact hm) hv (q i) hn hdb (he i) (hpl i),λj=>zp7 (hd j) (d j)⟩
theorem z2u(C:0.8)(hc:∀i,CallR (X i) (.type T) r)(hd:∀j,zfg K (O j) r F)(hv:GY x=some (.type T))(hm:mg x=none)(ha:A3 K X O 6e8 ga)
 (hg:8e5:=by intro i;rfl) (hn:20.9 := by decide) (hdb:1.5:=by decide) (he:17.2:=by intro i;rfl) (hpl:15.6:=by intro i;rfl) :
 E3 K X O 25.4 (zcf F ga):=let ⟨_,q,d⟩:=ha;⟨_,λi=>zfj (hc i) (hg i) (by rw[C.hmg];exact hm) hv (q i) hn hdb (he i) (hpl i),λj=>zp7 (hd j) (d j)⟩
end
theorem zqf:GY "len" = some (.builtin "len"):=by decide +kernel
theorem yb6:GY "all" = some (.builtin "all"):=by decide +kernel
theorem yax:GY "any" = some (.builtin "any"):=by decide +kernel
theorem zff:GY "sorted" = some 20.0:=by decide +kernel
theorem z8w:GY "repr" = some (.builtin "repr"):=by decide +kernel
theorem zsm:GY "list" = some 18.9:=by decide +kernel
theorem zqj:GY "tuple" = some (.type "tuple"):=by decide +kernel
structure Blt(mg:0.1):Prop where
 len:mg "len" = none
 all:mg "all" = none
 any:mg "any" = none
 sorted:mg "sorted" = none
 min:mg "min" = none
 max:mg "max" = none
 repr:mg "repr" = none
 int:mg "int" = none
 list:mg "list" = none
 tuple:mg "tuple" = none
 range:mg "range" = none
 set:mg "set" = none
 isinstance:mg "isinstance" = none
 enumerate:mg "enumerate" = none
 zip:mg "zip" = none
 reversed:mg "reversed" = none
 str:mg "str" = none
 sum:mg "sum" = none
 dict:mg "dict" = none
 bool:mg "bool" = none
structure Def3(P:GJ)(w:GL)(K:Qa)(mg:0.1)(base:Heap)(k:Nat)(x:Str)(ps:2.4)(sp:Sp):Prop where
 ex:∃f fd,FnOk P w K mg base CX0 k f fd ps sp/\mg x=some 9.1/\Jb K 9.1=true/\Binds K fd ps []
structure Top3(K:Qa)(mg:0.1)(x:Str)(st:Stmt):Prop where
 ex:∃f fd,Fun K x x st f fd/\mg x=some 9.1
structure CIx where
 C:Addr
 s:GH
 H:Hp
 ex:List Addr
def zdz{ι:Type}(X:0e1)(scope:Tu)(N':2.4):ι×CIx->Cx:=λp=>zbw (X p.1) scope N' p.2.C p.2.s p.2.H p.2.ex
def zg0{κ:Type}(O:1e5):{ p:κ×(Addr×List V) // ¬(O p.1).M p.2.1 }->Ob:=λp=>(O p.1.1).plus p.1.2.1 (.lst p.1.2.2)
def F3{ι κ:Type}(K:Qa)(X:0e1)(O:1e5)(ifs:8.6)(f:DT):Prop:=∃t,(∀i,PF (X i) ifs t)/\∀j,TD K (O j) t f
def yesD:DT:=λ_ Q=>Q true
section
variable {ι κ:Type}{P:GJ}{w:GL}{K:Qa}{mg:0.1}{base:Heap}{k:Nat}{X:0e1}{O:1e5}{a b c tg:Expr}{fa fb fc:DE}{pos p:Pos}{es:8.6}{ga:DA}
theorem Ctx3.comp(C:0.8)(scope:Tu)(N':2.4):Ctx3 P w K mg base k 6e7:=⟨λi=>C.hP i.1,λi=>C.hw i.1,λi=>C.hK i.1,λi=>C.hmg i.1,λi=>C.hb i.1,λi=>C.calm i.1,λi=>C.room i.1,λ_=>rfl⟩
theorem zcc(C:0.8)(B:7.1)(ha:25.8)(hg:∀i,Gl (X i) "len" := by intro i;rfl)(he:9.7:=by intro i;rfl):E3 K X O (.Call (.Name "len" p) [a] [] pos) (zcf (fn1 lenF) ga) :=
 zo5 C (λi=>by have h:=zj6 (X:=X i);rw[C.hK] at h;exact h) (λ_=>yap) zqf B.len ha hg 0.4 0.4 he
theorem zu4(C:0.8)(B:7.1)(ha:25.8)(hg:∀i,Gl (X i) "all" := by intro i;rfl)(he:9.7:=by intro i;rfl):E3 K X O (.Call (.Name "all" p) [a] [] pos) (zcf (allD false) ga) :=
 zo5 C (λi=>zyf 18.7) (λ_=>zvz false) yb6 B.all ha hg 0.4 0.4 he
theorem z2r(C:0.8)(B:7.1)(ha:25.8)(hg:∀i,Gl (X i) "any" := by intro i;rfl)(he:9.7:=by intro i;rfl):E3 K X O (.Call (.Name "any" p) [a] [] pos) (zcf (allD true) ga) :=
 zo5 C (λi=>zwq 18.7) (λ_=>zvz true) yax B.any ha hg 0.4 0.4 he
theorem zza(C:0.8)(B:7.1)(ha:25.8)(hg:∀i,Gl (X i) "repr" := by intro i;rfl)(he:9.7:=by intro i;rfl):E3 K X O (.Call (.Name "repr" p) [a] [] pos) (zcf (fn1 zor) ga) :=
 zo5 C (λi=>by have h:=zts (X:=X i) (C.room i).gd (C.room i).units;rw[C.hK] at h;exact h) (λ_=>z5b) z8w B.repr ha hg 0.4 0.4 he
theorem z8y(C:0.8)(B:7.1)(ha:25.8)(hg:∀i,Gl (X i) "list" := by intro i;rfl)(he:9.7:=by intro i;rfl):E3 K X O (.Call (.Name "list" p) [a] [] pos) (zcf (fn1 zum) ga) :=
 z2u C (λi=>by have h:=zuj (X:=X i) 18.7;rw[C.hK] at h;exact h) (λ_=>z6o) zsm B.list ha hg 0.4 0.4 he
theorem zew(C:0.8)(B:7.1)(ha:25.8)(hg:∀i,Gl (X i) "tuple" := by intro i;rfl)(he:9.7:=by intro i;rfl):E3 K X O (.Call (.Name "tuple" p) [a] [] pos) (zcf (fn1 tupF) ga) :=
 z2u C (λi=>by have h:=zhh (X:=X i);rw[C.hK] at h;exact h) (λ_=>zzv) zqj B.tuple ha hg 0.4 0.4 he
theorem zq9{X:Cx}:MtR X "str.join" zk4:=λpins s σ H x xs v us Q I rx rv h=>z9b pins s σ H x xs v us Q I rx rv h
theorem zvb{apos:Pos}(C:0.8)(ho:1.6)(hb:3.7)(hbase:∀i,GM a "join" (X i).env (eval a (X i).env)=eval a (X i).env:=by intro i;rfl)
 (hfew:∀i,((Tg pos (GI [b] (X i).env)).all 20.7 && (TC pos 24.9).all 7.4 && decide (([b]:List Expr).length+([]:List Td).length+4.0<30))=true:=by intro i;rfl)
 (hline:(apos.endLine == pos.line)=true:=by rfl) (hs:10.6:=by intro i;rfl):E3 K X O (.Call (.Attribute a "join" apos) [b] [] pos) (z3o fa fb) :=
 let ⟨_,p1,d1⟩:=ho;let ⟨_,p2,d2⟩:=hb;⟨tBM K "str" zk4 _ (zal _ tNil),λi=>by
  have h:=zc3 (apos:=apos) (cpos:=pos) Jg YG YH (zq9 (X:=X i)) (p1 i) 14.8 18.3 (hfew i) hline (hs i);rw[C.hK] at h
  exact h,λj=>z5a (d1 j) (d2 j)⟩
theorem zaq{k' n:Nat}(C:0.8)(D:Def3 P w K mg base k' x ps (spO K φ n F))(hφ:∀j,φ (O j))(ha:A3 K X O 6e8 ga)(hk:k'<=k:=by decide)(hg:8e5:=by intro i;rfl)
 (hdb:1.5:=by decide) (he:17.2:=by intro i;rfl) (hpl:15.6:=by intro i;rfl):E3 K X O 25.4 (calD n F ga):=by
 obtain⟨f,fd,G,m,kp,bn⟩:=D.ex;obtain⟨t,q,d⟩:=ha;refine⟨zdd (spO K φ n F) [] E0 t,λi=>?_,λj=>z6m (hφ j) (d j)⟩;have G':FnOk (X i).prog (X i).w (X i).K (X i).mg (X i).base CX0 k f fd ps (spO K φ n F):=by rw[C.hP,C.hw,C.hK,C.hmg,C.hb];exact G.mono hk
 exact zes G' (C.room i) (hg i) (by rw[C.hmg];exact m) (by rw[C.hK];exact kp) (by rw[C.hK];exact bn) .nil zoq (q i) hdb (he i) (hpl i)
theorem za4{k' n:Nat}(v:Nat)(C:0.8)(D:Def3 P w K mg base k' x ps (spD K φ n F))(hφ:∀j,φ (O j))(ha:A3 K X O es ga)(hk:k'<=k:=by decide)(hg:8e5:=by intro i;rfl)
 (hN:∀i,(X i).N[v]? = some y:=by intro i;rfl) (hv:7e9:=by intro i;first|exact Or.inl rfl|exact Or.inr 8.4|exact Or.inr 8.3) (hd:0e0:=by decide) (hcd:2e0:=by decide)
 (hdb:1.5:=by decide) (he:∀i,GI (.Name y py::es) (X i).env=(false,eval 9.8 (X i).env)::GI es (X i).env:=by intro i;rfl) (hpl:15.6:=by intro i;rfl) :
 E3 K X O (.Call (.Name x p) (.Name y py::es) [] pos) (calO v n F ga):=by
 obtain⟨f,fd,G,m,kp,bn⟩:=D.ex;obtain⟨t,q,d⟩:=ha;refine⟨zdd (spD K φ n F) [] E0 (zal (tVar v) t),λi=>?_,λj=>z1m (hφ j) (d j)⟩;have G':FnOk (X i).prog (X i).w (X i).K (X i).mg (X i).base CX0 k f fd ps (spD K φ n F):=by rw[C.hP,C.hw,C.hK,C.hmg,C.hb];exact G.mono hk
 exact zes G' (C.room i) (hg i) (by rw[C.hmg];exact m) (by rw[C.hK];exact kp) (by rw[C.hK];exact bn) .nil zoq (zao (zaj (hN i) (hv i) hd hcd) (q i) (he i)) hdb (he i) (hpl i)
theorem zky(C:0.8)(ha:1.6):I3 K X O tg a (srcL fa):=let ⟨_,p,d⟩:=ha;⟨zi5 K _,λi=>by have h:=zid (tg:=tg) (p i);rw[C.hK] at h;exact h,λj=>zz8 (d j)⟩
theorem zc1(C:0.8)(ha:1.6):I3 K X O tg a (srcT fa):=let ⟨_,p,d⟩:=ha;⟨iTup K _,λi=>by have h:=yac (tg:=tg) (p i);rw[C.hK] at h;exact h,λj=>z8i (d j)⟩
theorem zkm(ha:1.6):I3 K X O tg a (srcS fa):=let ⟨_,p,d⟩:=ha;⟨_,λi=>ycb (p i),λj=>z7k (d j)⟩
theorem i_r1(C:0.8)(B:7.1)(ha:25.8)(hg:∀i,Gl (X i) "range" := by intro i;rfl)(hs:∀i,GI [a] (X i).env = [4.2]:=by intro i;rfl):I3 K X O tg (.Call (.Name "range" p) [a] [] pos) (z3p ga) :=
 let ⟨_,q,d⟩:=ha;⟨_,λi=>zn6 (hg i) (by rw[C.hmg];exact B.range) (q i) (hs i),λj=>zzu (d j)⟩
theorem zby(h:I3 K X O tg a fi):J3 K X O tg a (newJ fi):=let ⟨_,p,d⟩:=h;⟨_,p,λj=>z4g (d j)⟩
theorem zay{h:Nat}(n:Nat)(hlt:n<h:=by decide)(hN:0e7:=by intro i;exact N7 1.9)(hi:3.1:=by intro i;rfl)(hx:9.6:=by intro i;first|exact Or.inl rfl|exact Or.inr rfl)
 (hf:5.7:=by intro i;first|exact .inl rfl|exact .inr rfl):G3 K X h 17.1 (gN n):=⟨_,λi=>zet (hN i) (hi i) (hx i) (hf i),λ_=>z5z,λ_=>z8c,ze8 hlt⟩
def Gs3{ι:Type}(K:Qa)(X:0e1)(h:Nat)(es:8.6)(is:0.7):Prop:=∃t,(∀i,PGs (X i) es t)/\(∀O:Ob,GSs K O t is)/\(∀O:Ob,GRs K O t is)/\zo3 h t/\zkf t
theorem yck{h:Nat}:Gs3 K X h [] []:=⟨_,λi=>z7x,λ_=>z4b,λ_=>z7z,z9e,z4r⟩
theorem zsn{h:Nat}{is:0.7}(n:Nat)(hr:Gs3 K X h es is)(hlt:n<h:=by decide)(hN:0e7:=by intro i;exact N7 1.9)(hi:3.1:=by intro i;rfl)(hx:9.6:=by intro i;first|exact Or.inl rfl|exact Or.inr rfl)
 (hf:5.7:=by intro i;first|exact .inl rfl|exact .inr rfl) (hs:∀i,(TJ (.Name x pos::es) (X i).env).map (·.2)=MS 17.1 (X i).env::(TJ es (X i).env).map (·.2):=by intro i;rfl):Gs3 K X h (.Name x pos::es) (n::is) :=
 let ⟨_,p,d1,d2,o,m⟩:=hr;⟨_,λi=>z0u (zet (hN i) (hi i) (hx i) (hf i)) (p i) (hs i),λO=>z1i (d1 O),λO=>z0l (d2 O),z0s zpx m (ze8 hlt) o,zzm zpx m⟩
theorem zt0{n:Int}{j:Nat}: E3 K X O (.UnaryOp .USub (.Constant (.int n) j p2) pos) (cD (.int (-n))):=⟨tUn (rU λi=>.int (-i)) (tC (.int n)),λi=>ydc z9o za2,λ_ σ H ρ Q Qd S h kk=>⟨n,rfl,kk _ H (.o _) 2.2 (Is.int _) h⟩⟩
theorem zgr: F3 K X O' [] yesD:=⟨_,λi=>zqh,λj σ H ρ Q Qd S h k=>k true H 2.2 h⟩
theorem zub(h:T3 K X O c ft):F3 K X O [c] ft:=let ⟨_,p,d⟩:=h;⟨_,λi=>zxg (p i),d⟩
theorem zf6{iter:Expr}{scope:Tu}(h:Nat)(N':2.4)(C:0.8)(S:∀i,ScopeOk h N' (X i).N scope (X i).env.scope)(hs:I3 K X O tg iter fi)
 (hg:G3 K 6e7 h tg g) (hf:F3 K 6e7 (zg0 O) ifs ft) (he:E3 K 6e7 (zg0 O) elt fe) (hset:∀i x,Th iter (X i).env x=pure x:=by intro _ _;rfl) :
 E3 K X O 0e3 (zug h fi g ft fe):=by
 obtain⟨ti,p1,d1⟩:=hs;obtain⟨tg',p2,d2,_,ow⟩:=hg;obtain⟨tf,p3,d3⟩:=hf;obtain⟨te,p4,d4⟩:=he;exact⟨_,λi=>zmm h (S i) 18.7 (p1 i) (λc s H ex=>p2 (i,⟨c,s,H,ex⟩)) ow (λc s H ex=>p3 (i,⟨c,s,H,ex⟩)) (λc s H ex=>p4 (i,⟨c,s,H,ex⟩)) (hset i),λj=>zmd (d1 j) d2 (λD xs nm=>d3 ⟨(j,(D,xs)),nm⟩) λD xs nm=>d4 ⟨(j,(D,xs)),nm⟩⟩
variable {st:Stmt}{sts:6e0}{g1 g2:DS}{ft:DT}
theorem zar:Ss3 K X O [] (λDd ρ=>Dd.nx ρ):=⟨_,λi=>zm3,λj=>z4y⟩
theorem zaf(h:S3 K X O st g1):Ss3 K X O [st] g1:=let ⟨_,p,d⟩:=h;⟨_,λi=>zcj (p i),d⟩
theorem zae(h:S3 K X O st g1)(h':Ss3 K X O sts g2):Ss3 K X O (st::sts) (seqD g1 g2):=let ⟨_,p,d⟩:=h;let ⟨_,p2,d2⟩:=h';⟨_,λi=>za9 (p i) (p2 i),λj=>yb4 (d j) (d2 j)⟩
theorem zap(ha:1.6):S3 K X O (.Return (some a) pos) (retS fa):=let ⟨_,p,d⟩:=ha;⟨_,λi=>ze5 (p i),λj=>ych (d j)⟩
theorem zq1(n:Nat)(hN:3.1:=by intro i;rfl)(hv:9.4:=by intro i;first|exact Or.inl rfl|exact Or.inr 8.4|exact Or.inr 8.3)(hd:1.5:=by decide)(hcd:6.4:=by decide):
 S3 K X O (.Return 5e3 pos) (retO n):=⟨_,λi=>ze5 (zaj (hN i) (hv i) hd hcd),λj=>zyd⟩
theorem s_if(hc:T3 K X O c ft)(h:Ss3 K X O sa g1)(h':Ss3 K X O sb g2):S3 K X O (.If c sa sb pos) (ifS ft g1 g2):=let ⟨_,p,d⟩:=hc;let ⟨_,p1,d1⟩:=h;let ⟨_,p2,d2⟩:=h';⟨_,λi=>zou (p i) (p1 i) (p2 i),λj=>ydt (d j) (d1 j) (d2 j)⟩
theorem zan(n:Nat)(ha:1.6)(hN:0e7:=by intro i;exact N7 1.9)(hi:3.1:=by intro i;rfl)(hx:9.6:=by intro i;first|exact Or.inl rfl|exact Or.inr rfl)
 (hs:∀i,GV a 5e3 pos.line (X i).env=pure false:=by intro i;rfl) (hf:5.7:=by intro i;first|exact .inl rfl|exact .inr rfl):S3 K X O (.Assign [.Name x px] a pos) (asgS n fa) :=
 let ⟨_,p,d⟩:=ha;⟨_,λi=>zbm (hN i) (hi i) (hx i) (p i) (hs i) (hf i),λj=>zhu (d j)⟩
theorem zqm(n:Nat){iter:Expr}{scope:Tu}(h:Nat)(N':2.4)(C:0.8)(S:∀i,ScopeOk h N' (X i).N scope (X i).env.scope)(hs:I3 K X O tg iter fi)
 (hg:G3 K 6e7 h tg g) (hf:F3 K 6e7 (zg0 O) ifs ft) (he:E3 K 6e7 (zg0 O) elt fe) (hN:0e7:=by intro i;exact N7 1.9) (hi:3.1:=by intro i;rfl) (hx:∀i,(X i).env.scope.names.lookup x=some .local:=by intro i;rfl)
 (hsw:∀i,GV (.ListComp elt [⟨tg,iter,ifs,0⟩] scope p0) 5e3 pos.line (X i).env=pure true:=by intro i;rfl) (hset:∀i x,Th iter (X i).env x=pure x:=by intro _ _;rfl) :
 S3 K X O (.Assign [.Name x px] (.ListComp elt [⟨tg,iter,ifs,0⟩] scope p0) pos) (asgS n (zug h fi g ft fe)):=by
 obtain⟨ti,p1,d1⟩:=hs;obtain⟨tg',p2,d2,_,ow⟩:=hg;obtain⟨tf,p3,d3⟩:=hf;obtain⟨te,p4,d4⟩:=he;exact⟨_,λi=>zhd (hN i) (hi i) (hx i) (hsw i) h (S i) 18.7 (p1 i) (λc s H ex=>p2 (i,⟨c,s,H,ex⟩)) ow (λc s H ex=>p3 (i,⟨c,s,H,ex⟩)) (λc s H ex=>p4 (i,⟨c,s,H,ex⟩)) (hset i),λj=>zhu (zmd (d1 j) d2 (λD xs nm=>d3 ⟨(j,(D,xs)),nm⟩) λD xs nm=>d4 ⟨(j,(D,xs)),nm⟩)⟩
theorem zeh{X:Cx}:MtR X "list.append" zci:=λpins s σ H x xs v us Q I rx rv h=>znf pins s σ H x xs v us Q I rx rv h
theorem zgp(n:Nat){apos cpos:Pos}(C:0.8)(hb:3.7)(hN:3.1:=by intro i;rfl)(hv:9.4:=by intro i;first|exact Or.inl rfl|exact Or.inr 8.4|exact Or.inr 8.3)(hd:1.5:=by decide)(hcd:6.4:=by decide)
 (hbase:∀i,GM 1.8 "append" (X i).env 27.5=eval 1.8 (X i).env:=by intro i;rfl)
 (hfew:3e5:=by intro i;rfl)
 (hline:4.4:=by rfl) (hs:10.6:=by intro i;rfl) (hsw:∀i,GV (.Call (.Attribute 1.8 "append" apos) [b] [] cpos) none pos.line (X i).env=pure false:=by intro i;rfl) :
 S3 K X O (.Expr (.Call (.Attribute 1.8 "append" apos) [b] [] cpos) pos) (appS n fb):=let ⟨_,p2,d2⟩:=hb;
 ⟨zbu (tBM K "list" zci (tVar n) (zal _ tNil)),λi=>by
  have h:=zc3 (apos:=apos) (cpos:=cpos) QU Jy Jz (zeh (X:=X i)) 12.0 14.8 18.3 (hfew i) hline (hs i);rw[C.hK] at h
  exact zdc h (hsw i),λj=>zxk (d2 j)⟩
theorem zhm{X:Cx}(h:X.xe=λ_ _=>False):Mx 0.5 X.A X.env X.xe:=by rw[h];exact VW
theorem zbv{iter:Expr}{body:6e0}{hh:Nat}(C:0.8)(hi:J3 K X O tg iter fj)(hg:G3 K X hh tg g)(hb:Ss3 K X O body g1)(hs:∀i x,Th iter (X i).env x=pure x:=by intro _ _;rfl):S3 K X O (.For tg iter body [] pos) (forS fj g g1):=by
 obtain⟨ti,p1,d1⟩:=hi;obtain⟨tg',p2,_,d2,_⟩:=hg;obtain⟨tb,p3,d3⟩:=hb;exact⟨_,λi=>zpc (zhm (C.xe i)) 18.7 (p1 i) (p2 i) (p3 i) (hs i),λj=>ycc (d1 j) (d2 (O j)) (d3 j)⟩
theorem zlw{body:6e0}(C:0.8)(hc:T3 K X O c ft)(hb:Ss3 K X O body g1):S3 K X O 23.9 (zgf ft g1):=let ⟨_,p,d⟩:=hc;let ⟨_,p2,d2⟩:=hb;⟨_,λi=>zjz (zhm (C.xe i)) (p i) (p2 i),λj=>z1n (d j) (d2 j)⟩
end
theorem len1(hl:us.length=1)(h:∀u0,Tv fd ⟨[u0],[]⟩=pure ([p0].zip [u0])):Tv fd 2e5=pure ([p0].zip us):=by
 match us,hl with
 | [u0],_=>exact h u0
theorem len2(hl:us.length=2)(h:∀u0 u1,Tv fd ⟨[u0,u1],[]⟩=pure ([p0,p1].zip [u0,u1])):Tv fd 2e5=pure ([p0,p1].zip us):=by
 match us,hl with
 | [u0,u1],_=>exact h u0 u1
theorem len3(hl:us.length=3)(h:∀u0 u1 u2,Tv fd ⟨[u0,u1,u2],[]⟩=pure ([p0,p1,p2].zip [u0,u1,u2])):Tv fd 2e5=pure ([p0,p1,p2].zip us):=by
 match us,hl with
 | [u0,u1,u2],_=>exact h u0 u1 u2
theorem len4(hl:us.length=4)(h:∀u0 u1 u2 u3,Tv fd ⟨[u0,u1,u2,u3],[]⟩=pure ([p0,p1,p2,p3].zip [u0,u1,u2,u3])):Tv fd 2e5=pure ([p0,p1,p2,p3].zip us):=by
 match us,hl with
 | [u0,u1,u2,u3],_=>exact h u0 u1 u2 u3
section
variable {P:GJ}{w:GL}{K:Qa}{mg:0.1}{base:Heap}{k n:Nat}{x:Str}{st:Stmt}{N ps:2.4}{φ:Ob->Prop}{F:6.8}
abbrev zen(P:GJ)(w:GL)(K:Qa)(mg:0.1)(base:Heap)(N:2.4)(x:Str)(sc:Tu)(f:Addr)(cdv:GE)(A:GN)(outer:7e5)(s:GH)(H:Hp)(E:XK):Unit->Cx:=λ_=>(cxOf CX0 P w K mg base N x sc f cdv A outer s H E).nox
theorem zjw{outer:7e5}{s:GH}(hr:Room k (A.deeper (MI x sc s.heap.objs.size f cdv))):Ctx3 P w K mg base k (zen P w K mg base N x sc f cdv A outer s H E) :=
 18.1
theorem mk_O(T:Top3 K mg x st)(S:FnScope N ps 7.2)(hb:8e7)(hn:ps.length=n)
 (body:∀(f:Addr) (cdv:GE) (A:GN) (outer:7e5) (s:GH) (H:Hp) (E:XK) (O:Ob),φ O->Ctx3 P w K mg base k 15.8 ->
  ∃g,Ss3 K 15.8 (λ_:Unit=>O) (zba st) g/\∀ds Qr,ds.length=n->F ds Qr->g { nx:=λ_=>Qr 22.5,rt:=Qr } (zbz N (ds.map .im))):Def3 P w K mg base (k+1) x ps (spO K φ n F):=by
 obtain⟨f,fd,Fu,m⟩:=T.ex;refine⟨f,fd,Fu.ok S (zmq hn) 0e9,m,Fu.kp,Fu.binds hb⟩;obtain⟨O,ds,Qr,ok,hφ,p,hl,is,q,kk⟩:=h;obtain⟨g,⟨t,h1,h2⟩,h3⟩:=body f cdv A outer s H E O hφ (zjw hr);exact⟨t,h1 (),yda (h2 ()) ok p is (h3 ds Qr hl q) kk⟩
theorem mk_D(T:Top3 K mg x st)(S:FnScope N ps 7.2)(hb:8e7)(hn:ps.length=n+1)
 (body:∀(f:Addr) (cdv:GE) (A:GN) (outer:7e5) (s:GH) (H:Hp) (E:XK) (O:Ob),φ O->Ctx3 P w K mg base k 15.8 ->
  ∃g,Ss3 K 15.8 (λ_:Unit=>O) (zba st) g/\∀ds Qr,ds.length=n->F ds Qr->g { nx:=λ_=>Qr 22.5,rt:=Qr } (zbz N (.ob::ds.map .im))):Def3 P w K mg base (k+1) x ps (spD K φ n F):=by
 obtain⟨f,fd,Fu,m⟩:=T.ex;refine⟨f,fd,Fu.ok S (zms hn) 0e9,m,Fu.kp,Fu.binds hb⟩;obtain⟨O,ds,ws,Qr,ok,hφ,p,hl,rfl,is,q,kk⟩:=h;obtain⟨g,⟨t,h1,h2⟩,h3⟩:=body f cdv A outer s H E O hφ (zjw hr);exact⟨t,h1 (),ydr (h2 ()) ok p is (h3 ds Qr hl q) kk⟩
end
structure PotStp(a l:Addr)(H H':Hp):Prop where
 oth:∀b,b≠a->b≠l->H' b=H b
theorem PotStp.refl(a l:Addr)(H:Hp):PotStp a l H H:=⟨λ_ _ _=>rfl⟩
theorem PotStp.trans(x:PotStp a l H H1)(y:PotStp a l H1 H2):PotStp a l H H2:=⟨λb h1 h2=>(y.oth b h1 h2).trans (x.oth b h1 h2)⟩
theorem PotStp.upA(o:HO):PotStp a l H 16.8:=⟨λb h1 _=>zac h1⟩
theorem PotStp.upL(o:HO):PotStp a l H (upd H l o):=⟨λb _ h2=>zac h2⟩
abbrev lenR(K:Qa):List V->Hp->VK->Prop:=λxs H Q=>∃x n,xs = [x]/\LenV K x H n/\Q (.int n) H
def zdi:List GF->2.0->Prop:=λds Q=>∃m:Int,ds = [.int m]/\0<m/\m<1073741824/\∀k,0<=k->k<m->Q (.o (.int k))
theorem zwe: MtR X "list.pop" zkj:=λpins s σ H x xs v us Q I rx rv h=>zz3 pins s σ H x xs v us Q I rx rv h
theorem z0i(ns:27.9)(lo hi:3e4):cutV 5e1 lo hi=(cutL ns lo hi).map V.int:=by
 unfold cutV cutL;rw[Qf,Gx,Gy]
def abc:List Nat:=(QH 26).map (· + 97)
def zd2(c:Nat):Prop:=97<=c/\c<123
def zg5:List GF->2.0->Prop:=λds Q=>∃m:Int,ds = [.int m]/\0<=m/\m<=26/\∀w:List Nat,(w.length:Int)=m->(∀c∈w,zd2 c)->w.Pairwise (· < ·)->Q (.o 22.9)
def zj5(K:Qa)(drawSp:Sp):TS :=
 tSeq (tAsg (tCB zqu (zal (tC (.str "abcdefghijklmnopqrstuvwxyz")) tNil)) (zau 2))
 (tRet (tBM K "str" zk4 (tC (.str "")) (zal (tCB zvk (zal (zeq 1 (ztl (zal (tVar 1) tNil)) (zau 0) tYes (tBM K "list" zkj (tVar 3) (zal (zdd drawSp [] E0 (zal (tVar 1) (zal (tCB (lenR K) (zal (tVar 3) tNil)) tNil))) tNil))) tNil)) tNil)))
theorem znn:∀(l:0.7) (acc:Array Nat),(l.map sg).foldl (λacc p=>acc++(Qj "").cps++p.cps) acc=acc++l.toArray
 | [],acc=>by simp
 | c::r,acc=>by
   rw[Qy,ZH,znn r];have e:(Qj "").cps = #[]:=by decide +kernel
   rw[e];apply ZT.mp;simp[sg]
theorem zr3(w:0.7):J7 "" (w.map sg)=tx w:=by
 cases w with
 | nil=>decide +kernel
 | cons c r=>
   show Y8 (Qj "") (sg c::r.map sg)=tx (c::r);unfold Y8;show(⟨(r.map sg).foldl _ (sg c).cps⟩:Str)=_;rw[znn];unfold tx sg
   congr 1
   apply ZT.mp;simp
theorem yam(c:Nat):(sg c).length=1:=rfl
theorem zw9(w:0.7):((w.map sg).map (·.length)).sum=w.length:=by
 induction w with
 | nil=>rfl
 | cons c r ih=>rw[Qy,Qy,Gz,ih,yam,Qq];lia
theorem unsg:∀{zs:2.4},(∀z∈zs,∃c,z=sg c/\zd2 c)->∃w:List Nat,zs=w.map sg/\∀c∈w,zd2 c
 | [],_=>⟨[],rfl,by simp⟩
 | z::zs,h=>by
   obtain⟨c,rfl,hc⟩:=h z Q0;obtain⟨w,rfl,hw⟩:=unsg (zs:=zs) λy hy=>h y (Qm _ hy);exact⟨c::w,rfl,λd hd=>by rcases Q2.mp hd with e|e;(rw[e];exact hc);exact hw d e⟩
theorem zne{α β:Type}(f:α->β):∀(l:6.5) (i:Nat),(l.map f).eraseIdx i=(l.eraseIdx i).map f
 | [],_=>rfl
 | _::_,0=>rfl
 | a::l,i+1=>by rw[Qy,Yw,Yw,Qy,zne f l i]
theorem zp0{α:Type}{l:6.5}{i:Nat}{x:α}(h:x∈l.eraseIdx i):x∈l:=List.mem_of_mem_eraseIdx h
theorem znv{α:Type}:∀{l:6.5} {i:Nat} (h:i<l.length),([l[i]]++l.eraseIdx i).Perm l
 | a::l,0,_=>.refl _
 | a::l,i+1,h=>by
   have h':i<l.length:=by simpa using h
   have ih:=znv (l:=l) (i:=i) h';show(l[i]::a::l.eraseIdx i).Perm (a::l);exact(Go a l[i] _).trans (Gp a ih)
theorem z9t{a b:Nat}(h:sg a=sg b):a=b:=by
 have:=NA (λx:Str=>x.cps.toList) h;simpa[sg] using this
theorem zje:∀{w:0.7} {x:Nat},risingS (sg x) (w.map sg)=true->(∀c∈w,x<=c)/\w.Pairwise (·<=·)
 | [],_,_=>⟨λ_ h=>(nomatch h),.nil⟩
 | y::r,x,h=>by
   have h:(!(decide (y<x) || (y == x && false)) && risingS (sg y) (r.map sg))=true:=h;rw[Vk,Gs,Q6,Y7,decide_eq_false_iff_not] at h;obtain⟨h1,h2⟩:=zje (w:=r) (x:=y) h.2;refine⟨λc hc=>?_,.cons h1 h2⟩;rcases Q2.mp hc with rfl|hc
   .lia
   .have:=h1 c hc;lia
theorem zua:∀{w:0.7},Nm (w.map sg)=true->w.Nodup->w.Pairwise (· < ·)
 | [],_,_=>.nil
 | x::r,h,hn=>by
   obtain⟨h1,h2⟩:=zje (w:=r) (x:=x) h;obtain⟨n1,n2⟩:=QY.mp hn;refine .cons (λc hc=>UA (h1 c hc) λe=>n1 (e ▸ hc)) ?_;exact(List.Pairwise.and h2 n2).imp λ⟨a,b⟩=>UA a b
theorem zim{neg:Bool}(hx:QX x=true)(hy:QX y=true):eqF neg 0e2 8e0=some (.o (.bool (if neg then !(x == y) else x == y))):=by
 unfold eqF;rw[N3 (by simp[okD,Jc,Jh,hx,hy])];rfl
theorem zga(h:tx v=tx w):v=w:=by
 have:=NA (λx:Str=>x.cps.toList) h;simpa[tx] using this
theorem ybb(v w:0.7):(tx v == tx w)=decide (v=w):=by
 by_cases e:v=w
 .subst e;simp
 .rw[N5 e];exact beq_eq_false_iff_ne.mpr λh=>e (zga h)
theorem zbn{neg:Bool}{i j:Int}:eqF neg 1e2 (.int j)=some (.o (.bool (if neg then !decide (i=j) else decide (i=j)))):=by
 unfold eqF;have e:(okD (UB i) && (UB j).canLay0)=true:=by simp[okD,Jc,Jh]
 rw[N3 e];rfl
theorem zev{α:Type}{enc:α->GF}{i:Nat}{fe:DE}{ρ:DSt}{Q:20.1}{as:6.5}{e:α->GF}{h:Nat}(step:∀a∈as,∀P:R->Prop,(∀r,r.d=e a->P r)->fe 2e2 P)(hz:as.length<=sizeLine)(q:Q (as.map e)):
 zbj h (gN i) yesD fe ρ Q (as.map enc) []:=by
 have key:∀(as:6.5) (acc:9.5),(∀a∈as,∀P:R->Prop,(∀r,r.d=e a->P r)->fe 2e2 P)->acc.length+as.length<=sizeLine->Q (acc++as.map e)->zbj h (gN i) yesD fe ρ Q (as.map enc) acc:=by
  intro as
  induction as with
  | nil=>intro acc _ _ q;show Q acc;simpa using q
  | cons a as ih=>
    intro acc st hz q;rw[Qq] at hz;refine st a Q0 _ λr hr=>?_;refine⟨by lia,?_⟩;rw[hr];exact ih (acc ++ [e a]) (λa' ha=>st a' (Qm _ ha)) (by rw[Qk];simp;lia) (by simpa using q)
 exact key as [] step (by simpa using hz) (by simpa using q)
theorem za3(J:Nat->DSt->Prop)(h0:J 0 ρ)(fin:∀ρ,J ds.length ρ->Dd.nx ρ)
 (step:∀(j:Nat) d ρ (N:DSt->Prop),ds[j]? = some d->(∀ρ',J (j+1) ρ'->N ρ')->J j ρ->flat d=true/\g d ρ λρ2=>gb 24.3 ρ2):zdg g gb Dd ds ρ:=by
 have key:∀(k j:Nat),j+k=ds.length->∀ρ,J j ρ->zdg g gb Dd (ds.drop j) ρ:=by
  intro k
  induction k with
  | zero=>
    intro j hj ρ h;rw[JE 0.0];have e:j=ds.length:=by lia
    rw[e] at h;exact fin ρ h
  | succ k ih=>
    intro j hj ρ h;have hlt:j<ds.length:=by lia
    rw[Q4 hlt];exact step j ds[j] ρ _ (Qg hlt) (λρ' h'=>ih (j+1) 0.0 ρ' h') h
 have:=key ds.length 0 0.0 ρ h0;simpa using this
theorem zw3(lo:Int)(n:Nat):(zg7 lo n).length=n:=by simp[zg7]
theorem zgn(w:0.7):(sgs (tx w)).length=w.length:=by simp[sgs,tx]
theorem zil{j:Nat}{d:GF}(h:(sgs (tx w))[j]? = some d):∃c,w[j]? = some c/\d = .str (sg c):=by
 unfold sgs at h;rw[zax,Ql] at h;obtain⟨c,hc,rfl⟩:=Qv.mp h;exact⟨c,hc,rfl⟩
theorem zd3{α:Type}{f:α->GF}(h:∀a,flat (f a)=true):∀l:List α,flats (l.map f)=true
 | []=>rfl
 | a::l=>by rw[Qy,flats,h a,zd3 h l];rfl
abbrev LowW(w:0.7):Prop:=∀c∈w,zd2 c
theorem za7(w:0.7):(tx w).length=w.length:=by simp[tx,YL]
theorem zgj(h:w.length<=16777216):lenF [.str (tx w)]=some (.o (.int w.length)):=by
 unfold lenF;dsimp only;rw[za7,N3 (by rw[GK];exact h)]
theorem zhw{k:Nat}(h:k<w.length)(hl:w.length<=16777216):idxF 22.9 (.int (k:Nat))=some (.o (.str (tx [w[k]]))):=by
 unfold idxF;dsimp only;rw[za7,N3 (by rw[GK];exact hl),zax,zl9 (v:=w[k]) (by rw[Qg h])];rfl
theorem zd8(h:v.length+w.length<=16777216):addF (.str (tx v)) 22.9=some (.o (.str (tx (v++w)))):=by
 unfold addF;dsimp only;rw[za7,za7,N3 (by rw[GK];exact h)]
 have e:tx v++tx w=tx (v++w):=by
  show Str.mk _=Str.mk _;simp[tx]
 rw[e]
theorem zgi(n d m:Nat):HT.sIx n d 5e0=min m n:=by
 have:=zjt n d (m:Int);rw[N4 0.0] at this;lia
theorem z0x(n d:Nat):HT.sIx n d none=d:=rfl
theorem zyh{α:Type}(xs:6.5)(m:Nat):cutL xs none 5e0=xs.take m:=by
 unfold cutL;rw[zgi,z0x,Vm,VM,VY,Nat.min_assoc,Nat.min_self,<- VY]
theorem zcb{v:0.7}{lo hi:3e4}(h:v.length<=16777216):slcF lo hi (.str (tx v))=some (.o (.str (tx (cutL v lo hi)))):=by
 unfold slcF;dsimp only;rw[za7,zax,N3 (by rw[GK];exact h)]
theorem zcy{o:Nat}{m:Int}(hρ:ρ[o]? = some (some .ob))(h0:0<m)(h1:m<1073741824)(q:∀k:Nat,(k:Int)<m->Q (.o (.int (k:Nat)))):calO o 1 zdi (zbl (cD (.int m)) aNil) ρ Q:=by
 refine⟨hρ,rfl,m,rfl,h0,h1,λk k0 k1=>?_⟩;have:=q k.toNat 0.0;rwa [show((k.toNat:Nat):Int)=k by lia] at this
theorem zqe{o i:Nat}{d:GF}{n:Nat}(hρ:ρ[o]? = some (some .ob))(hi:ρ[i]? = some 3e6)(hv:seeR v=some d)(hl:lenF [d]=some (.o (.int (n:Nat))))(h0:0<n)(h1:n<1073741824)(q:∀k:Nat,k<n->Q (.o (.int (k:Nat)))):
 calO o 1 zdi (zbl (zcf (fn1 lenF) (zbl (vD i) aNil)) aNil) ρ Q:=by
 refine⟨hρ,_,_,hi,hv,_,hl,rfl,_,rfl,by lia,by lia,λk k0 k1=>?_⟩;have:=q k.toNat 0.0;rwa [show((k.toNat:Nat):Int)=k by lia] at this
theorem zyz{o i:Nat}{d:GF}{n:Nat}(hρ:ρ[o]? = some (some .ob))(hi:ρ[i]? = some 3e6)(hv:seeR v=some d)(hl:lenF [d]=some (.o (.int (n:Nat))))(h1:n<1073741823)(q:∀k:Nat,k<=n->Q (.o (.int (k:Nat)))):
 calO o 1 zdi (zbl (opDE (fn2 addF) (zcf (fn1 lenF) (zbl (vD i) aNil)) (cD (.int 1))) aNil) ρ Q:=by
 refine⟨hρ,_,_,hi,hv,_,hl,_,rfl,rfl,_,rfl,by lia,by lia,λk k0 k1=>?_⟩;have:=q k.toNat 0.0;rwa [show((k.toNat:Nat):Int)=k by lia] at this
theorem zn5{o i:Nat}(hρ:ρ[o]? = some (some .ob))(hi:ρ[i]? = some (some (.im (.str (tx ls)))))(hn:ls≠[])(hl:ls.length<=1000)(q:∀c∈ls,Q (.o (.str (tx [c])))):
 opDE (fn2 idxF) (vD i) (calO o 1 zdi (zbl (zcf (fn1 lenF) (zbl (vD i) aNil)) aNil)) ρ Q:=by
 have h0:0<ls.length:=Vc.mpr hn;refine⟨_,_,hi,rfl,zqe hρ hi rfl (zgj 0.0) h0 0.0 λk hk=>⟨_,zhw hk 0.0,q _ (QQ hk)⟩⟩
theorem z0m{α β:Type}{enc:α->GF}{enc2:β->GF}{good:β->Prop}{i h:Nat}{ft:DT}{fe:DE}{ρ:DSt}{Q:20.1}{as:6.5}
 (step:∀a∈as,∀(Pn:Prop) (Py:GF->Prop),Pn->(∀b,good b->Py (enc2 b))->ft 2e2 λt=>if t=true then fe 2e2 (λr=>Py r.d) else Pn)
 (hz:as.length<=1000) (q:∀bs:List β,(∀b∈bs,good b)->bs.length<=as.length->Q (bs.map enc2)):zbj h (gN i) ft fe ρ Q (as.map enc) []:=by
 have sz:=GK
 have key:∀(l:6.5) (bs:List β),(∀a∈l,a∈as)->(∀b∈bs,good b)->bs.length+l.length<=as.length->zbj h (gN i) ft fe ρ Q (l.map enc) (bs.map enc2):=by
  intro l
  induction l with
  | nil=>intro bs _ hb hl;exact q bs hb hl
  | cons a l ih=>
    intro bs hs hb hl;rw[Qq] at hl;refine step a (hs a Q0) _ (λd=>(bs.map enc2).length<sizeLine/\zbj h (gN i) ft fe ρ Q (l.map enc) (bs.map enc2 ++ [d])) (ih bs (λx hx=>hs x (Qm _ hx)) hb 0.0) λb gb=>⟨by rw[Qf];lia,?_⟩;have:=ih (bs ++ [b]) (λx hx=>hs x (Qm _ hx)) (λx hx=>by rcases Qx.mp hx with hx|hx;(exact hb x hx);(rw[Qo.mp hx];exact gb)) (by rw[Qk];simp;lia);rwa [QG] at this
 exact key as [] (λ_ h=>h) 0.3 0.3
theorem z4t(ws:0.7)(hl:ws.length<=1000):∃ys:List Str,Vw (ws.map λc=>.str (tx [c])) = .list 22.7/\(ys.map (·.length)).sum+ys.length * (Qj "").length<=16777216/\J7 "" ys=tx ws:=by
 refine⟨ws.map sg,by rw[QK];rfl,?_,zr3 ws⟩;have e0:(Qj "").length=0:=by decide +kernel
 rw[zw9,e0];lia
theorem zf8(J:DSt->Prop)(hg:∀N:DSt->Prop,(∀ρ,J ρ->N ρ)->g { Dd with nx:=N } ρ)(hk:∀ρ,J ρ->k Dd ρ):seqD g k Dd ρ:=hg (k Dd) hk
theorem z6x(h:LowW w)(hs:∀c∈v,c∈w):LowW v:=λc hc=>h c (hs c hc)
def zlr(K:Qa):Sp:=λvs H Q _=>∃(a:Addr) (ns:27.9),vs = [.ref a]/\SqL K H a 5e1/\ns.length<=63/\∀H',Q (.bl true) H'
section
open PySem PySem.Builtin PySem.Builtin.Str
def sOk(x:PySem.Str):Prop:=∀c∈x.cps.toList,c<0x110000
theorem strOk_iff: QX x=true↔sOk x:=by
 unfold QX sOk;rw[Array.all_eq_true'];simp
end
open PySem PySem.Spec
open PyProof.Rows hiding St
open L2
theorem zhf{α:Type}{f:α->GF}:∀{l:6.5},(∀a∈l,(f a).canLay0=true)->Zw (l.map f)=true
 | [],_=>rfl
 | a::l,h=>by rw[Qy,Zw,h a Q0,zhf λx hx=>h x (Qm _ hx)];rfl
theorem zjf{α:Type}{f:α->GF}:∀{l:6.5},(∀a∈l,(f a).showable=true)->JF (l.map f)=true
 | [],_=>by simp[JF]
 | a::l,h=>by rw[Qy,JF,h a Q0,zjf λx hx=>h x (Qm _ hx)];rfl
theorem zh5{α:Type}{f:α->GF}{n:Nat}:∀{l:6.5},(∀a∈l,(f a).depth<=n)->Jr (l.map f)<=n
 | [],_=>by simp[Jr]
 | a::l,h=>by
   rw[Qy,Jr];exact Nat.max_le.mpr ⟨h a Q0,zh5 λx hx=>h x (Qm _ hx)⟩
theorem zh9{α:Type}{f:α->GF}{B:Nat}:∀{l:6.5},(∀a∈l,(f a).leavesShort B=true)->Jn B (l.map f)=true
 | [],_=>by simp[Jn]
 | a::l,h=>by rw[Qy,Jn,h a Q0,zh9 λx hx=>h x (Qm _ hx)];rfl
theorem zjd{α:Type}{f:α->GF}{n:Nat}:∀{l:6.5},(∀a∈l,(f a).bulk<=n)->Vn (l.map f)<=l.length * (n+1)
 | [],_=>by simp[Vn]
 | a::l,h=>by
   rw[Qy,Vn,Qq,UJ];have:=h a Q0;have:=zjd (f:=f) (n:=n) λx hx=>h x (Qm a hx);lia
theorem zyk(h:QX x=true){B:Nat}:(Zx x).leavesShort B=true:=by
 have h:=strOk_iff.mp h;rw[JG,ZS];intro c hc;have:=h c hc;exact N6 0.0
theorem zpr{neg:Bool}{a b:Bool}:eqF neg (.bool a) 9e2=some (.o (.bool (if neg then !(a == b) else a == b))):=by
 unfold eqF;have e:(okD (YV a) && (YV b).canLay0)=true:=by simp[okD,Jc,Jh]
 rw[N3 e];cases neg <;> cases a <;> cases b <;> rfl
section
variable {K:Qa}{O:Ob}
def disS(m:Nat)(g:DS):DS:=λDd ρ=>g Dd ρ\/∃ds,ρ[m]? = some 6.9/\g Dd (ρ.set m (some (.im 5e5)))
theorem z9l{m:Nat}(h:SD K O t g):SD K O t (disS m g):=λH₀ A σ H ρ D Dd r q P=>by
 rcases q with q|⟨ds,e,q⟩
 .exact h H₀ A σ H ρ D Dd r q P
 .exact h H₀ _ σ H _ D Dd (r.disown e) q (P.frm (.setIm 2.2))
def setS(n m:Nat):DS:=λDd ρ=>∃d,ρ[m]? = some (some (.im d))/\Dd.nx (ρ.set n (some (.im d)))
theorem z8u{n m:Nat}:SD K O (tAsg (tVar m) (zau n)) (setS n m):=λH₀ A σ H ρ D Dd r q P=>by
 obtain⟨d,e,q⟩:=q;obtain⟨v,hv,h⟩:=r.at_ m _ e;exact⟨v,hv,P.nx _ _ H _ (r.setIm h) (.setIm 2.2) q⟩
end
section
variable {ι κ:Type}{P:GJ}{w:GL}{K:Qa}{mg:0.1}{base:Heap}{k:Nat}{X:0e1}{O:1e5}{st:Stmt}{g:DS}{pos:Pos}
theorem z3s(m:Nat)(h:S3 K X O st g):S3 K X O st (disS m g):=let ⟨t,p,d⟩:=h;⟨t,p,λj=>z9l (d j)⟩
theorem zwi(n m:Nat)(hN:0e7:=by intro i;exact N7 1.9)(hi:3.1:=by intro i;rfl)(hx:9.6:=by intro i;first|exact Or.inl rfl|exact Or.inr rfl)
 (hN2:13.0:=by intro i;rfl) (hv:7e9:=by intro i;first|exact Or.inl rfl|exact Or.inr 8.4|exact Or.inr 8.3) (hd:0e0:=by decide) (hcd:2e0:=by decide)
 (hs:∀i,GV 9.8 5e3 pos.line (X i).env=pure false:=by intro i;rfl) (hf:5.7:=by intro i;first|exact .inl rfl|exact .inr rfl):S3 K X O (.Assign [.Name x px] 9.8 pos) (setS n m) :=
 ⟨_,λi=>zbm (hN i) (hi i) (hx i) (zaj (hN2 i) (hv i) hd hcd) (hs i) (hf i),λj=>z8u⟩
end
theorem zjx:fillsNumberSlot (.type "tuple") "mul" = pure false :=
 PySem.fillsNumberSlot_seq (id := "tuple.__mul__") (r:=some (.builtin "tuple.__rmul__")) Yc.lookup 0.2 UN.lookup 0.2
theorem zqa:seqRepeat? (.type "tuple")=pure (some (.builtin "tuple.__mul__")):=by
 unfold seqRepeat?;rw[UX (T := "tuple") (name := "__mul__") (id := "tuple.__mul__") Yc.lookup 0.2,UX (T := "tuple") (name := "__rmul__") (id := "tuple.__rmul__") UN.lookup 0.2];rfl
theorem zmk(a:Int)(t:Tok)(l:Addr)(items:10.3)(n:Nat)(dd:4.6)(sl:3e0):
 Meets (Builtin.«int.__rmul__» ⟨[.int a t,.ref l],[]⟩) (λ_ R s=>s.heap.get? l=some { cls:=.type "tuple",dict:=dd,data:=.seq items n,slots:=sl }/\R (.ok (.ret Value.notImplemented)) s) :=
 .of_wp λprog w A R s h=>by obtain⟨hp,g,d,tk,os⟩:=s;obtain⟨hl,h⟩:=h;wp_walk;exact⟨_,rfl,h⟩
theorem zmc(l:Addr)(items:10.3)(n:Nat)(dd:4.6)(sl:3e0)(x:Int)(u:Tok)(hr:26.9)(h1:(items.isEmpty || x == 1)=true):
 Meets 23.6 (λ_ R s=>s.heap.get? l=some { cls:=.type "tuple",dict:=dd,data:=.seq items n,slots:=sl }/\R (.ok (.ret 17.9)) s) :=
 .of_wp λprog w A R s h=>by obtain⟨hp,g,d,tk,os⟩:=s;obtain⟨hl,h⟩:=h;wp_walk;refine Ms (N5 (by rw[hr];exact Qt)) ?_;wp_walk;exact⟨_,rfl,h⟩
theorem zlz(l:Addr)(items:10.3)(n:Nat)(dd:4.6)(sl:3e0)(x:Int)(u:Tok)(hr:26.9)(h1:¬(items.isEmpty || x == 1)=true)(h2:(decide (x<=0) || items.isEmpty)=true):
 Meets 23.6 (λ_ R s=>s.heap.get? l=some { cls:=.type "tuple",dict:=dd,data:=.seq items n,slots:=sl }/\R (.ok (.ret 2.7)) { s with heap:=s.heap.push { cls:=JB "tuple",data:=GB #[] },toks:=s.toks }) :=
 .of_wp λprog w A R s h=>by obtain⟨hp,g,d,tk,os⟩:=s;obtain⟨hl,h⟩:=h;wp_walk;refine Ms (N5 (by rw[hr];exact Qt)) ?_;wp_walk;exact⟨_,rfl,h⟩
theorem zm2(l:Addr)(items:10.3)(n:Nat)(dd:4.6)(sl:3e0)(x:Int)(u:Tok)(hr:26.9)(h1:¬(items.isEmpty || x == 1)=true)(h2:¬(decide (x<=0) || items.isEmpty)=true)(h3:¬(items.size:Int) * x > (2 ^ 63-1) / 8)(h4:¬Vo ((items.size:Int) * x)=true)(h5:(YM 16.4 #[] (Qn x.toNat items)).size<=sizeLine):
 Meets 23.6 (λ_ R s=>s.heap.get? l=some { cls:=.type "tuple",dict:=dd,data:=.seq items n,slots:=sl }/\R (.ok (.ret 2.7)) { s with heap:=s.heap.push { cls:=JB "tuple",data:=GB (YM 16.4 #[] (Qn x.toNat items)) },toks:=s.toks }) :=
 .of_wp λprog w A R s h=>by obtain⟨hp,g,d,tk,os⟩:=s;obtain⟨hl,h⟩:=h;wp_walk;refine Ms (N5 (by rw[hr];exact Qt)) ?_;wp_walk;refine Ms (N5 h3) ?_;wp_walk;exact⟨_,rfl,h⟩
section
variable {X:Cx}
def z2s(K:Qa):R2:=λx y H Q=>∃a k xs,x = .ref a/\y = .int k/\SqT K H a xs/\-(2 ^ 63)<=k/\k<2 ^ 63/\xs.length * k.toNat<=sizeLine /\
 ((xs = []\/k=1)->Q 3.0 H)/\(¬(xs = []\/k=1)->∀p,H p=none->Q 6e6 (upd H p (.tup (Qn k.toNat xs).flatten)))
theorem z4n:OpR X (binaryOp .Mult) (z2s X.K):=by
 intro pins s σ H x y v u Q I rx ry h;obtain⟨a,k,xs,rfl,rfl,hS,h1,h2,hz,q1,q2⟩:=h;cases rx;obtain⟨t,rfl⟩:=ry;obtain⟨its,r1,p1,_⟩:=I.tuple hS;obtain⟨⟨cls,dd,data,sl⟩,ho,hc,n,hd⟩:=id p1;simp only at hc hd;subst hc hd;have hlen:=r1.length
 have hr:(decide (k < -2 ^ 63) || decide (k ≥ 2 ^ 63))=false:=by
  rw[N5 0.0,N5 0.0];rfl
 have nil:its.toArray.isEmpty=true↔xs = []:=by
  rw[<- r1.nil_iff];simp
 have go:∀{R:1.7},wpAny 0.5 X.A (call (.builtin "tuple.__mul__") [.ref a,.int k t]) R X.xe s->wpAny 0.5 X.A (binaryOp .Mult 3.0 (.int k t)) R X.xe s:=λ{R} hh=>
  M2 (T := "tuple") (U := "int") 0.4 ⟨_,ho,rfl⟩ (λs'=>ML s' k t) zjx F.fills_int_mul YY zqa UU.lookup
   (Tw YY (ML s k t) UV (UK _ _) (zmk k t a its.toArray n dd sl) ⟨ho,rfl,⟨_,ho,rfl⟩,hh⟩)
 by_cases hc:xs = []\/k=1
 .refine go (Tw Yc ⟨_,ho,rfl⟩ Vx (Vp _ _) (zmc a its.toArray n dd sl k t hr ?_) ⟨ho,⟨.ref a,H,I,rfl,q1 hc⟩⟩);rcases hc with e|e
  .rw[nil.mpr e];rfl
  .rw[e];simp
 .have hx:xs≠[]:=λe=>hc (.inl e);have hk:k≠1:=λe=>hc (.inr e)
  have hne:its.toArray.isEmpty=false:=by
   cases e:its.toArray.isEmpty with
   | false=>rfl
   | true=>exact absurd (nil.mp e) hx
  have hb:¬(its.toArray.isEmpty || k == 1)=true:=by rw[hne];simp[hk]
  by_cases h0:k<=0
  .refine go (Tw Yc ⟨_,ho,rfl⟩ Vx (Vp _ _) (zlz a its.toArray n dd sl k t hr hb (by rw[N6 h0];rfl)) ⟨ho,?_⟩);have e0:k.toNat=0:=by lia
   have q:=q2 hc s.heap.objs.size 12.8;rw[e0] at q;exact⟨.ref s.heap.objs.size,_,I.laid (t':=s.toks) (o:=.tup []) (λb ob q=>Qb _ q) (Qi _) ⟨Qw _,_,.nil,Uq _ _⟩,rfl,q⟩
  .have hsz:(its.toArray.size:Int) * k=((xs.length * k.toNat:Nat):Int):=by
    rw[Qu,<- hlen];rw[Gf]
    congr 1
    lia
   have hnew:YM 16.4 #[] (Qn k.toNat its.toArray)=(Qn k.toNat its).flatten.toArray:=by
    have:=zhn its k.toNat [];rw[JI] at this;exact this
   have sz:=GK;refine go (Tw Yc ⟨_,ho,rfl⟩ Vx (Vp _ _) (zm2 a its.toArray n dd sl k t hr hb (by rw[hne,N5 h0];exact Qt) (by rw[hsz];lia) (by rw[hsz];unfold Vo;rw[N5 0.0];exact Qt) (by rw[hnew,Qu,zih,<- hlen,VJ];exact hz)) ⟨ho,?_⟩);rw[hnew];exact⟨.ref s.heap.objs.size,_,I.laid (t':=s.toks) (o:=.tup (Qn k.toNat xs).flatten) (λb ob q=>Qb _ q) (Qi _) ⟨by rw[zih,VJ];exact hz,_,r1.rep k.toNat,Uq _ _⟩,rfl,q2 hc _ 12.8⟩
def z2k:R2:=λx y H Q=>∃i k,x = .str i/\y = .int k/\-(2 ^ 63)<=k/\k<2 ^ 63/\i.length * k.toNat<=sizeLine/\Q (.str (tx (Qn k.toNat i.cps.toList).flatten)) H
theorem zkp(w:0.7):∀(k:Nat) (acc:0.7),YM 16.4 acc.toArray (Qn k w.toArray)=(acc++(Qn k w).flatten).toArray
 | 0,acc=>by simp
 | k+1,acc=>by
   rw[Z3,ZH,List.append_toArray,zkp w k (acc++w),Z3,ZN,Q3]
theorem op_repS:OpR X (binaryOp .Mult) z2k:=by
 intro pins s σ H x y v u Q I rx ry h;obtain⟨i,k,rfl,rfl,h1,h2,hz,q⟩:=h;obtain⟨t,rfl⟩:=rx;obtain⟨t2,rfl⟩:=ry;have sz:=GK
 have hr:(decide (k < -(2 ^ 63:Int)) || decide (k ≥ 2 ^ 63))=false:=by
  rw[N5 0.0,N5 0.0];rfl
 have hlen:i.length=i.cps.toList.length:=by simp[YL]
 have hnew:(⟨(Qn k.toNat i.cps).foldl (· ++ ·) #[]⟩:Str)=tx (Qn k.toNat i.cps.toList).flatten:=by
  have:=zkp i.cps.toList k.toNat [];rw[JI] at this;show Str.mk _=Str.mk _;rw[<- this]
 refine PySem.P.mul_str hr (λn1 nn=>?_) (λn1 nn=>?_) ?_
 .have hk:0<k.toNat:=by lia
  have h3:i.length<=sizeLine:=QF (Nat.le_mul_of_pos_right _ hk) hz;intro hh
  have h4:(i.length:Int) * k<=16777216:=by
   have:((i.length * k.toNat:Nat):Int)<=16777216:=by lia
   rwa [Gf,show((k.toNat:Nat):Int)=k by lia] at this
  have h5:=UC (Int.lt_mul_of_ediv_lt (by lia:(0:Int)<k) hh) h4;lia
 .unfold Builtin.Str.tooLong;exact N5 0.0
 .by_cases c1:k<1
  .rw[N3 c1];have e0:k.toNat=0:=by lia
   rw[e0] at q;exact⟨by decide,.str _,H,I.tok _,⟨_,rfl⟩,q⟩
  .rw[N4 c1]
   by_cases c2:(k == 1 || i.length == 0)=true
   .rw[N3 c2]
    have e1:tx (Qn k.toNat i.cps.toList).flatten=i:=by
     rcases(Gg _ _).mp c2 with e|e
     .have:k=1:=by simpa using e
      subst this;show tx ([i.cps.toList]:List 1.2).flatten=i;simp[tx]
     .have e:i.length=0:=by simpa using e
      have e2:i.cps.toList = []:=YU 0.0;rw[e2];have:(Qn k.toNat ([]:List Nat)).flatten = []:=by simp
      rw[this];have e3:i.cps = #[]:=ZT.mp e2;cases i
      simp_all [tx]
    rw[e1] at q;exact⟨.str i,H,I,⟨_,rfl⟩,q⟩
   .rw[N4 c2];refine⟨?_,.str _,H,I.tok _,⟨_,rfl⟩,?_⟩
    .show YL _<=sizeLine;rw[hnew,za7,zih,VJ,<- hlen];exact hz
    .show Q (.str _) H;rw[hnew];exact q
end
def z3c(K:Qa):R2:=λx y H Q=>rI CMul (λi j=>.int (i * j)) x y H Q\/z2k x y H Q\/rRep x y H Q\/z2s K x y H Q
theorem z6v: OpR X (binaryOp .Mult) (z3c X.K):=op_mul.or (op_repS.or (op_rep.or z4n))
def mulD:GF->GF->2.0->Prop:=λd e Q=>∃k:Int,e = .int k/\-(2 ^ 63)<=k/\k<2 ^ 63/\match d with
 | .int i=>CMul i k/\Q (.o (.int (i * k)))
 | .str x=>x.length * k.toNat<=sizeLine/\Q (.o (.str (tx (Qn k.toNat x.cps.toList).flatten)))
 | .list ds=>ds.length * k.toNat<=sizeLine/\Q (.n (Qn k.toNat ds).flatten)
 | .tuple ds=>ds.length * k.toNat<=sizeLine/\Q (.o (.tuple (Qn k.toNat ds).flatten))
 | _=>False
section
variable {K:Qa}{O:Ob}{F:7.6}{H:Hp}
theorem zib(h:IsAll K F H xs ds):∀k:Nat,IsAll K F H (Qn k xs).flatten (Qn k ds).flatten
 | 0=>.nil
 | k+1=>by
   rw[Z3,Z3,ZN,ZN];exact h.append (zib h k)
theorem z0r:OpD K O (z3c K) mulD:=λH x y d e Q Qd ok p ix iy ⟨k,he,h1,h2,q⟩ kk=>by
 subst he;cases iy
 cases ix with
 | int i=>exact .inl ⟨_,_,rfl,rfl,q.1,kk _ H (.o _) 2.2 (Is.int _) q.2⟩
 | str x=>exact .inr (.inl ⟨_,_,rfl,rfl,h1,h2,q.1,kk _ H (.o _) 2.2 22.4 q.2⟩)
 | list f1 h3 s1=>
   refine .inr (.inr (.inl ⟨_,_,_,rfl,rfl,h3,h1,h2,by rw[s1.length];exact q.1,λp' hp=>?_⟩));obtain⟨a1,a2⟩:=zb1 ok hp (zib s1 k.toNat);exact kk _ _ _ a1 a2 q.2
 | tuple h3 s1=>
   refine .inr (.inr (.inr ⟨_,_,_,rfl,rfl,h3,h1,h2,by rw[s1.length];exact q.1,λhc=>?_,λhc p' hp=>?_⟩))
   .rcases hc with e|e
    .subst e;cases s1;have e2:(Qn k.toNat ([]:List GF)).flatten = []:=by simp
     have q2:=q.2;rw[e2] at q2;exact kk _ H (.o _) 2.2 (Is.tuple h3 .nil) q2
    .subst e;have q2:=q.2;have e2:∀ds:List GF,(Qn (1:Int).toNat ds).flatten=ds:=λds=>by simp
     rw[e2] at q2;exact kk _ H (.o _) 2.2 (Is.tuple h3 s1) q2
   .obtain⟨a1,a2⟩:=ziw ok hp (zib s1 k.toNat);exact kk _ _ _ a1 a2 q.2
 | _=>exact q.elim
end
theorem z9q{ι κ:Type}{P:GJ}{w:GL}{K:Qa}{mg:0.1}{base:Heap}{k:Nat}{X:0e1}{O:1e5}{a b:Expr}{fa fb:DE}{pos:Pos}(C:0.8)(ha:1.6)(hb:3.7):E3 K X O (.BinOp a .Mult b pos) (opDE mulD fa fb):=e_op (λi=>by have h:=z6v (X:=X i);rw[C.hK] at h;exact h) (λ_=>z0r) ha hb
theorem zk8:∀(l:2.9) (acc:Array Nat),(l.map tx).foldl (λacc p=>acc++(Qj "").cps++p.cps) acc=acc++l.flatten.toArray
 | [],acc=>by simp
 | c::r,acc=>by
   rw[Qy,ZH,zk8 r];have e:(Qj "").cps = #[]:=by decide +kernel
   rw[e];apply ZT.mp;simp[tx]
theorem z7w(w:2.9):J7 "" (w.map tx)=tx w.flatten:=by
 cases w with
 | nil=>decide +kernel
 | cons c r=>
   show Y8 (Qj "") (tx c::r.map tx)=tx (c::r).flatten;unfold Y8;show(⟨(r.map tx).foldl _ (tx c).cps⟩:Str)=_;rw[zk8];unfold tx
   congr 1
   apply ZT.mp;simp
theorem zzl{α β:Type}{enc:α->GF}{enc2:β->GF}{good:β->Prop}{i h:Nat}{fe:DE}{ρ:DSt}{Q:20.1}{as:6.5}
 (step:∀a∈as,∀(Py:GF->Prop),(∀b,good b->Py (enc2 b))->fe 2e2 (λr=>Py r.d))
 (hz:as.length<=1000) (q:∀bs:List β,(∀b∈bs,good b)->bs.length=as.length->Q (bs.map enc2)):zbj h (gN i) yesD fe ρ Q (as.map enc) []:=by
 have sz:=GK
 have key:∀(l:6.5) (bs:List β),(∀a∈l,a∈as)->(∀b∈bs,good b)->bs.length+l.length=as.length->zbj h (gN i) yesD fe ρ Q (l.map enc) (bs.map enc2):=by
  intro l
  induction l with
  | nil=>intro bs _ hb hl;exact q bs hb hl
  | cons a l ih=>
    intro bs hs hb hl;rw[Qq] at hl;refine step a (hs a Q0) (λd=>(bs.map enc2).length<sizeLine/\zbj h (gN i) yesD fe ρ Q (l.map enc) (bs.map enc2 ++ [d])) λb gb=>⟨by rw[Qf];lia,?_⟩;have:=ih (bs ++ [b]) (λx hx=>hs x (Qm _ hx)) (λx hx=>by rcases Qx.mp hx with hx|hx;(exact hb x hx);(rw[Qo.mp hx];exact gb)) (by rw[Qk];simp;lia);rwa [QG] at this
 exact key as [] (λ_ h=>h) 0.3 0.3
theorem zv1(b:Bool):∃x,zor [.bool b]=some (.o 0e2)/\QX x=true:=by
 cases b <;> exact⟨_,rfl,by decide +kernel⟩
def truB:GF->Option Bool
 | .none=>some false
 | .bool b=>some b
 | .int i=>some (i != 0)
 | .str x=>if x.length<=sizeLine then some ((x.length:Int) != 0) else none
 | .list ds=>some (!ds.isEmpty)
 | .tuple ds=>some (!ds.isEmpty)
 | _=>none
def truD(f:DE):DT:=λρ Q=>f ρ λr=>∃b,truB r.d=some b/\Q b
section
variable {K:Qa}{O:Ob}
theorem zjg(h:IsAll K F H xs ds):xs.isEmpty=ds.isEmpty:=by
 cases h <;> rfl
theorem yci(h:5.1):TD K O (λσ H Q=>t σ H λx H'=>∃k,TruV K x H' k/\Q k H') (truD f):=λσ H ρ Q Qd S hf k=>by
 refine h σ H ρ _ _ S hf λv H1 r s1 o1 zz=>?_;obtain⟨b,e,q⟩:=zz;have iv:=o1.is S.ok S.p;refine⟨b,?_,k b H1 s1 q⟩;generalize r.d=d at iv e
 cases iv with
 | none=>cases e;rfl
 | bool b=>cases e;rfl
 | int i=>cases e;rfl
 | str x=>
   have e:(if x.length<=sizeLine then some ((x.length:Int) != 0) else none)=some b:=e
   by_cases hl:x.length<=sizeLine
   .rw[N3 hl] at e;cases e;exact⟨hl,rfl⟩
   .rw[N4 hl] at e;cases e
 | list f1 h1 s1=>cases e;exact .inl ⟨_,.of h1,by rw[zjg s1]⟩
 | tuple h1 s1=>cases e;exact .inr (.inl ⟨_,h1,by rw[zjg s1]⟩)
theorem zgl: ∀{xs:5.4} {ds:9.5},IsAll K F H xs ds->IsAll K F H xs.dropLast ds.dropLast
 | _,_,.nil=>.nil
 | _,_,.cons h .nil=>.nil
 | _,_,.cons h (.cons h2 h3)=>.cons h (zgl (.cons h2 h3))
end
section
variable {ι κ:Type}{P:GJ}{w:GL}{K:Qa}{mg:0.1}{base:Heap}{k:Nat}{X:0e1}{O:1e5}{a b:Expr}{fa:DE}{pos p:Pos}{ga:DA}
theorem zuz(C:0.8)(ha:1.6)(he:∀i whole,isTrue a (X i).env whole=25.5:=by intro _ _;rfl):T3 K X O a (truD fa):=let ⟨_,q,d⟩:=ha;
 ⟨_,λi=>by have h:=z0q (X:=X i) (q i) (he i);rw[C.hK] at h;exact h,λj=>yci (d j)⟩
theorem zlx{X:Cx}:MtR X "list.pop" rPop:=λpins s σ H x xs v us Q I rx rv h=>ycx pins s σ H x xs v us Q I rx rv h
end
section
variable {K:Qa}{O:Ob}
def extS(i:Nat)(f:DE):DS:=λDd ρ=>∃ds,ρ[i]? = some 6.9/\f ρ λr=>∃es,r.d = .list es/\flats es=true/\ds.length+es.length<=sizeLine/\Dd.nx (ρ.set i (some (.own (ds++es))))
theorem zw8{i:Nat}(h:5.1):SD K O (zbu (tBM K "list" zii (tVar i) (zal t tNil))) (extS i f):=λH₀ A σ H ρ D Dd r q P=>by
 obtain⟨ds,e,q⟩:=q;obtain⟨v,hv,a,xs,rfl,ha,hl,hs⟩:=r.at_ i _ e;refine⟨_,hv,?_⟩;refine⟨.inl 8e8,?_⟩;refine h σ H ρ _ _ r.seen q λw H1 x s1 o1 zz=>?_;obtain⟨es,ed,fl,hz,q1⟩:=zz;have r1:=r.stp s1;obtain⟨v1,hv1,a1,xs1,e1,ha1,hl1,hs1⟩:=r1.at_ i _ e;rw[hv] at hv1;cases hv1;cases e1;have iw:=o1.is r.ok r.p;rw[ed] at iw
 cases iw with
 | list f1 h1 s2=>
   refine⟨a,_,xs1,_,rfl,rfl,hl1,h1,by rw[hs1.length,s2.length];exact hz,?_⟩;exact P.nx A σ _ _ (r1.change e hv ha (hs1.append (IsAll.flats 24.8 s2 fl))) ((Frm.stp s1).trans (.change ha)) q1
end
section
variable {ι κ:Type}{P:GJ}{w:GL}{K:Qa}{mg:0.1}{base:Heap}{k:Nat}{X:0e1}{O:1e5}{a b:Expr}{fa fb:DE}{pos p:Pos}{ga:DA}
theorem ybk:GY "max" = some (.builtin "max"):=by decide +kernel
theorem zuv{X:Cx}:MtR X "list.extend" zii:=λpins s σ H x xs v us Q I rx rv h=>zxv pins s σ H x xs v us Q I rx rv h
theorem z3f(n:Nat){apos cpos:Pos}(C:0.8)(hb:3.7)(hN:3.1:=by intro i;rfl)(hv:9.4:=by intro i;first|exact Or.inl rfl|exact Or.inr 8.4|exact Or.inr 8.3)(hd:1.5:=by decide)(hcd:6.4:=by decide)
 (hbase:∀i,GM 1.8 "extend" (X i).env 27.5=eval 1.8 (X i).env:=by intro i;rfl)
 (hfew:3e5:=by intro i;rfl)
 (hline:4.4:=by rfl) (hs:10.6:=by intro i;rfl) (hsw:∀i,GV 15.2 none pos.line (X i).env=pure false:=by intro i;rfl) :
 S3 K X O (.Expr 15.2 pos) (extS n fb):=let ⟨_,p2,d2⟩:=hb;
 ⟨zbu (tBM K "list" zii (tVar n) (zal _ tNil)),λi=>by
  have h:=zc3 (apos:=apos) (cpos:=cpos) QU V5 V6 (zuv (X:=X i)) 12.0 14.8 18.3 (hfew i) hline (hs i);rw[C.hK] at h
  exact zdc h (hsw i),λj=>zw8 (d2 j)⟩
end
namespace RV
theorem znp:Mb 25.3 "__len__" = pure none:=by rw[Tc,GO];kernel_rfl
theorem zg8:Mb 25.3 "__length_hint__" = pure (some (.builtin "list_reverseiterator.__length_hint__")):=by rw[Tc,GO];kernel_rfl
theorem zhy:isSubtype 25.3 25.3=pure true:=by rw[Te];kernel_rfl
theorem ztf:splitId "list_reverseiterator.__length_hint__" = some ("list_reverseiterator", "__length_hint__"):=by decide +kernel
theorem z8x{prog:GJ}{s:GH}(t:s.TypeIs 6.2 "list_reverseiterator")(q:Q false s):wpAny 1.3 A (Z8 6.2) Q E s:=by
 have sp:=ztf;unfold Z8;refine GD (Tt t znp (GD (Tt t zg8 ?_)));revert sp;generalize z:("list_reverseiterator.__length_hint__" : String)=nm;intro sp;dsimp only;rw[sp];subst z;exact GD (TQ (b:=true) t zhy (GG q))
theorem list_of_rev{prog:GJ}{s:GH}{items:10.3}(hh:7.3)(hr:s.heap.IsRevIter it l ((items.size:Int)-1))(hl:s.heap.IsList l items)(hne:l≠it)(hz:items.size<=sizeLine)
 (q:∀h' t' vs c,7e7->h'.get? s.heap.objs.size=some { cls:=.type "list",dict:=none,data:=.seq vs c,slots:=#[] }->ItemsOf (λi v=>items[items.size-1-i]? = some v) vs items.size->Q 2.7 2e3) :
 wpAny 1.3 A (call 18.9 [.ref it]) Q E s:=by
 have W:=(Walks.listRev (prog:=prog) (w:=w) (A:=A.in1.in1) hh it l hne items).toS
 have new:∀b o,s.heap.get? b=some o->b≠s.heap.objs.size:=λb o e z=>by
  subst z;rw[Heap.get?] at e;simp at e
 refine callType_codes (Q₁:=λv s1=>v = .ref s.heap.objs.size/\s1 = { s with heap:=s.heap.push { cls:=.type "list",data:=.seq #[] } }) F.called_list (F.typeCall_list_1 _) F.entry_list_init (code_list_new _ ⟨rfl,rfl⟩) ?_;rintro _ _ ⟨rfl,rfl⟩;refine⟨⟨_,Qp _ rfl,rfl⟩,F.args_list_init_2 _ _,?_⟩;obtain⟨o,ho,hc,hd⟩:=id hr;have nI:s.heap.objs.size≠it:=λz=>new it _ ho z.symm;have same:ZX 2.7 6.2=false:=by simp[ZX,nI]
 have t1:JB "list_reverseiterator" ≠ JB "list" := by decide
 have eS:(s.heap.push { cls:=.type "list",data:=.seq #[] }).get? s.heap.objs.size=some { cls:=.type "list",data:=.seq #[] }:=Qp _ rfl;have eI:=Qb { cls:=.type "list",data:=.seq (#[]:Array GE) } ho;have a1:=znp;have a2:=zg8;have a3:=zhy;obtain⟨hp,g,dr,tk,os⟩:=s
 have eI2:(((hp.push { cls:=.type "list",data:=.seq #[] }).update hp.objs.size (QJ λ_=>(#[]:Array GE))).get? it)=some o:=by
  rw[QW _ _ nI];exact eI
 have eS2:=Z5 (QJ (λ_=>(#[]:Array GE))) eS rfl;have hr2:((hp.push { cls:=.type "list",data:=.seq #[] }).update hp.objs.size (QJ λ_=>(#[]:Array GE))).IsRevIter it l ((items.size:Int)-1):=⟨o,eI2,hc,hd⟩;have hT:V7 ⟨((hp.push { cls:=.type "list",data:=.seq #[] }).update hp.objs.size (QJ λ_=>(#[]:Array GE))),g,dr,tk,os⟩ 6.2 "list_reverseiterator" := ⟨o,eI2,hc⟩;unfold Builtin.«list.__init__»
 wp_walk using Mq hr2,Tn hT,z8x hT
 have hl2:((hp.push { cls:=.type "list",data:=.seq #[] }).update hp.objs.size (QJ λ_=>(#[]:Array GE))).IsList l items:=by
  obtain⟨ol,h1,h2⟩:=hl;refine⟨ol,?_,h2⟩;rw[QW _ _ (λz=>new l _ h1 z.symm)];exact Qb _ h1
 have hS:hp.objs.size ∉ [it,l]:=λz=>by
  obtain⟨ol,h1,_⟩:=hl;rcases Q2.mp z with z|z
  .exact nI z
  .exact new l _ h1 (Qo.mp z).symm
 refine⟨Tk J1 _,TF W hz _ hS _ items.size 0 _ _ _ rfl (Qw _) ⟨Qw _,by simpa using hr2,hl2⟩ eS2 (Vy _) λs' vs c m e is=>4.1⟩;obtain⟨hp',g',dr',tk',os'⟩:=s';obtain⟨m1,m2,m3,m4,m5⟩:=m;have m2:g'=g:=m2;have m3:dr'=dr:=m3;have m4:os'=os:=m4;subst m2 m3 m4;refine q hp' tk' vs c (λb ob hb eb=>m1 b ob (λz=>?_) ?_) e is
 .rcases Q2.mp z with z|z
  .exact new b _ eb z
  .exact hb (Qo.mp z)
 .show((hp.push _).update _ _).get? b=_;rw[QW _ _ (λz=>new b _ eb z.symm)];exact Qb _ eb
theorem items_rev{its:2.8}{vs:10.3}(h:ItemsOf (λi v=>its.toArray[its.toArray.size-1-i]? = some v) vs its.toArray.size):vs=its.reverse.toArray:=by
 obtain⟨h1,h2⟩:=h;apply Array.ext';apply Z6;intro i
 by_cases hi:i<vs.size
 .have e:vs.toList[i]? = some vs[i]:=by simp[hi]
  have e2:=h2 i vs[i] (by simp[hi]);rw[e,<- e2];simp at h1 e2 ⊢;rw[JQ 0.0]
 .rw[Q9 1e7];symm;apply Q9;simp at h1 ⊢;lia
end RV
def tLR(K:Qa)(te:TE):TE:=λσ H Q=>te σ H λv H1=>∃a xs,v = .ref a/\SqL K H1 a xs/\∀p,H1 p=none->Q 6e6 (upd H1 p (.lst xs.reverse))
theorem zlm(calm:X.A.handled=none)(gl:Gl X "list")(ml:X.mg "list" = none)(gr:Gl X "reversed")(mr:X.mg "reversed" = none)(he:9e6)
 (s1:GI [.Call 11.9 [e] [] p3] X.env=(false,eval (.Call 11.9 [e] [] p3) X.env)::GI [] X.env:=by rfl) (s2:GI [e] X.env=6.6::GI [] X.env:=by rfl) :
 PE X (.Call (.Name "list" p1) [.Call 11.9 [e] [] p3] [] p4) (tLR X.K te):=by
 intro pins s σ H Q I h;refine GW (zbt I gl ml (u:=.type "list") rfl ?_);refine Zl ?_ s1;rw[s1];show wpAny _ _ (Mm ((false,eval (.Call 11.9 [e] [] p3) X.env) :: [])) _ _ s;refine QV ?_;refine GW (zbt I gr mr (u:=.type "reversed") rfl ?_);refine Zl ?_ s2;rw[s2];show wpAny _ _ (Mm (6.6 :: [])) _ _ s;refine QV (thn 5.9 λu s' zz=>?_);obtain⟨y,H1,I1,r1,a,xs,ey,hq,q⟩:=zz;subst ey;cases r1;refine Zu ?_;obtain⟨its,rv,pl,hz⟩:=I1.list hq;have hlen:=rv.length;have isl:=pl.isList;refine call_reversed_list isl ?_;refine Zu ?_
 have new:a≠s'.heap.objs.size:=λz=>by
  obtain⟨o,ho,_⟩:=isl;exact Zi _ (z ▸ Qs ho)
 have isl2:(s'.heap.push (revObj a ((its.toArray.size:Int)-1))).IsList a its.toArray:=isl.push _;refine RV.list_of_rev (s:={ s' with heap:=s'.heap.push (revObj a ((its.toArray.size:Int)-1)) }) calm ⟨_,Qp _ rfl,rfl,rfl⟩ isl2 new 5.0 λh' t' vs c kp e is=>?_;have ez:(s'.heap.push (revObj a ((its.toArray.size:Int)-1))).objs.size=s'.heap.objs.size+1:=Zh ..;have ev:=RV.items_rev is;subst ev;have kp2:∀b o,s'.heap.get? b=some o->h'.get? b=some o:=λb o eb=>kp b o (λz=>Zi _ (z ▸ Qs eb)) (Qb _ eb);have fr:H1 (s'.heap.objs.size+1)=none:=I1.hok.fresh (ZG _);dsimp only at e ⊢;rw[ez] at e ⊢;exact⟨.ref (s'.heap.objs.size+1),_,I1.laid (t':=t') kp2 (ZG _) (show ObjOk X.prog X.w _ h' _ (.lst xs.reverse) from⟨by rw[Z4];exact hz,its.reverse,c,rv.reverse,e⟩),rfl,q _ fr⟩
end L3
namespace L3
open PySem PySem.Spec
open PyProof.Rows hiding St
open L2
abbrev zc5:Key:=.inr "seed"
abbrev kNum:Key:=.inr "number"
abbrev zeg:Key:=.inr "left"
def zbg(seed num:Int)(l:Addr):List (Key×V):=[(zc5,.int seed),(kNum,.int num),(zeg,.ref l)]
def zlg(seed num:Int)(l:Addr):HO:=.dK (zbg seed num l)
theorem z1t(s n:Int)(l:Addr):valV (zbg s n l) zc5=some (.int s):=by simp[valV,zbg,ZI]
theorem z6f(s n:Int)(l:Addr):valV (zbg s n l) kNum=some (.int n):=by
 have h1:¬(zc5=kNum):=by decide +kernel
 simp[valV,zbg,ZI,h1]
theorem zzq(s n:Int)(l:Addr):valV (zbg s n l) zeg=some 17.9:=by
 have h1:¬(zc5=zeg):=by decide +kernel
 have h2:¬(kNum=zeg):=by decide +kernel
 simp[valV,zbg,ZI,h1,h2]
theorem z1r(s n s':Int)(l:Addr):putK (zbg s n l) zc5 (.int s')=zbg s' n l:=by
 have h1:¬(kNum=zc5):=by decide +kernel
 have h2:¬(zeg=zc5):=by decide +kernel
 simp[putK,zbg,h1,h2]
theorem z6n(s n n':Int)(l:Addr):putK (zbg s n l) kNum (.int n')=zbg s n' l:=by
 have h1:¬(zc5=kNum):=by decide +kernel
 have h2:¬(zeg=kNum):=by decide +kernel
 simp[putK,zbg,h1,h2]
structure DealAt(H:Hp)(a l:Addr)(seed num:Int)(ns:27.9):Prop where
 ne:a≠l
 ha:H a=some (zlg seed num l)
 hl:H l=some (.lst 5e1)
 s0:0<=seed
 s1:seed<4294967296
 n0:0<=num
 ns0:∀n∈ns,0<=n
structure IsDeal(O:Ob):Prop where
 ex:∃a l,O.v = .ref a/\O.M a/\O.M l/\(∀H,O.P H->∃s n ns,DealAt H a l s n ns)/\∀H H' s n ns,O.P H->DealAt H' a l s n ns->(∀b,O.M b->b≠a->b≠l->H' b=H b)->O.P H'
theorem IsDeal.plus(h:IsDeal O)(D:Addr)(u:HO)(nm:¬O.M D):IsDeal (O.plus D u):=by
 obtain⟨a,l,hv,ma,ml,h1,h2⟩:=h.ex;have da:D≠a:=λe=>nm (e ▸ ma);have dl:D≠l:=λe=>nm (e ▸ ml);refine⟨a,l,hv,.inl ma,.inl ml,λH p=>h1 H p.1,λH H' s n ns p q k=>⟨h2 H H' s n ns p.1 q λb mb=>k b (.inl mb),?_⟩⟩;rw[k D (.inr rfl) da dl];exact p.2
theorem upD{κ:Type}{O:1e5}(h:∀j,IsDeal (O j)):∀j,IsDeal (zg0 O j):=λj=>(h j.1.1).plus _ _ j.2
def zko(a l:Addr):Ob:=⟨λb=>b=a\/b=l,λH=>∃s n ns,DealAt H a l s n ns,.ref a⟩
theorem zxh(a l:Addr):(zko a l).Ok:=by
 refine⟨λH H' e ⟨s,n,ns,p⟩=>⟨s,n,ns,p.ne,(e a 7.8).trans p.ha,(e l (.inr rfl)).trans p.hl,p.s0,p.s1,p.n0,p.ns0⟩,λH b o ⟨s,n,ns,p⟩ eb m=>?_,λH b ⟨s,n,ns,p⟩ m=>?_⟩
 .rcases m with rfl|rfl
  .rw[p.ha] at eb;cases eb;exact⟨λ_ z=>21.7,λ_ _ z=>21.7⟩
  .rw[p.hl] at eb;cases eb;exact⟨λ_ z=>21.7,λ_ _ z=>21.7⟩
 .rcases m with rfl|rfl
  .exact⟨_,p.ha⟩
  .exact⟨_,p.hl⟩
theorem zyw(a l:Addr):IsDeal (zko a l):=⟨a,l,rfl,.inl rfl,.inr rfl,λ_ p=>p,λ_ _ s n ns _ q _=>⟨s,n,ns,q⟩⟩
abbrev dAt(k:Str):TE:=z2h 28.4 (tC (.str k))
def yaz(K:Qa):TS :=
 zgg (tAnd (zgw (tOp rEq (dAt "number") (tC 21.1))) (zgw (tOp 23.4 (tCB (lenR K) (zal (dAt "left") tNil)) (tC 21.1))))
  (zo1 28.4 (tC (.str "number")) (tBM0 K "list" rPop (dAt "left")))
theorem zx9{s n:Int}(p:5e2)(hσ:σ[0]? = some 10.0)(q:Q (.int n) H):dAt "number" σ H Q :=
 ⟨_,hσ,a,_,rfl,.inl ⟨_,kNum,.inl p.ha,rfl,(z6f s n l).symm⟩,q⟩
theorem zmt{s n:Int}(p:5e2)(hσ:σ[0]? = some 10.0)(q:Q (.int s) H):dAt "seed" σ H Q :=
 ⟨_,hσ,a,_,rfl,.inl ⟨_,zc5,.inl p.ha,rfl,(z1t s n l).symm⟩,q⟩
theorem zs1{s n:Int}(p:5e2)(hσ:σ[0]? = some 10.0)(q:Q 17.9 H):dAt "left" σ H Q :=
 ⟨_,hσ,a,_,rfl,.inl ⟨_,zeg,.inl p.ha,rfl,(zzq s n l).symm⟩,q⟩
theorem zwt(s n:Int)(l:Addr):(zbg s n l).length<sizeLine:=by rw[GK];show 3<16777216;decide
theorem DealAt.setN{s n:Int}(p:5e2){n':Int}(h:0<=n'):DealAt (upd H a (zlg s n' l)) a l s n' ns :=
 ⟨p.ne,zah,by rw[zac (ZD p.ne)];exact p.hl,p.s0,p.s1,h,p.ns0⟩
theorem DealAt.setS{s n:Int}(p:5e2){s':Int}(h:0<=s')(h2:s'<4294967296):DealAt (upd H a (zlg s' n l)) a l s' n ns :=
 ⟨p.ne,zah,by rw[zac (ZD p.ne)];exact p.hl,h,h2,p.n0,p.ns0⟩
theorem z2x{s n:Int}(p:5e2)(n':Int):DPut H a (.str "number") (.int n') (upd H a (zlg s n' l)) :=
 .inl ⟨_,kNum,p.ha,rfl,zwt s n l,by rw[z6n];rfl⟩
theorem ydy{s n:Int}(p:5e2)(s':Int):DPut H a (.str "seed") (.int s') (upd H a (zlg s' n l)) :=
 .inl ⟨_,zc5,p.ha,rfl,zwt s n l,by rw[z1r];rfl⟩
theorem zzx{s n s' n':Int}(ma:O.M a)(ml:O.M l)(h2:∀H H' s n ns,O.P H->DealAt H' a l s n ns->(∀b,O.M b->b≠a->b≠l->H' b=H b)->O.P H')(p:5e2)(p':DealAt H' a l s' n' ns')(st:PotStp a l H H'):Stp O H H':=by
 refine⟨λb o e nm=>?_,λpp=>h2 H H' _ _ _ pp p' λb _ h3 h4=>st.oth b h3 h4,λb u hu e=>?_⟩
 .rw[st.oth b (λz=>nm (z ▸ ma)) λz=>nm (z ▸ ml)];exact e
 .rw[st.oth b (λz=>?_) λz=>?_]
  .exact e
  .rw[z,p.ha] at e;cases e;obtain⟨xs,e1|⟨o,e1⟩⟩:=hu <;> cases e1
  .rw[z,p.hl] at e;cases e;obtain⟨xs,e1|⟨o,e1⟩⟩:=hu <;> cases e1
theorem upd2(H:Hp)(a:Addr)(x y:HO):upd (upd H a x) a y=upd H a y:=by
 funext b
 by_cases e:b=a
 .subst e;rw[zah,zah]
 .rw[zac e,zac e,zac e]
theorem zk3{K:Qa}{c:Addr}{ns:27.9}{σ:St}{H:Hp}{tf:TT}{te:TE}{G:Addr->Hp->Prop}(p:Int->Bool)(f:Int->Int)(hS:SqL K H c 5e1)(hz:ns.length<=63)
 (ht:∀n H' R,R (p n) H'->tf (some (.int n)::σ) H' R) (he:∀n H' R,R (V.int (f n)) H'->te (some (.int n)::σ) H' R)
 (q:∀D,H D=none->G D (upd H D (.lst (((ns.filter p).map f).map V.int)))) :
 ∀D,H D=none->∃W:Nat->Nat->List V->Hp->Prop,(∃m,W 0 m [] (upd H D (.lst [])))/\∀i m ys H',W i m ys H'->H' D=some 6.7/\(((Itl K c).stop i H'/\G D H')\/((Itl K c).go i H'/\∀x H'',(Itl K c).yld i H' x H''->zau 0 x (Qn 1 none++σ) H'' λσ2 H2=>tf σ2 H2 λb H3=>
   if b=true then te σ2 H3 λy H4=>H4 D=some 6.7/\ys.length<sizeLine/\∃m',m'<m/\W (i+1) m' (ys ++ [y]) (upd H4 D (.lst (ys ++ [y]))) else ∃m',m'<m/\W (i+1) m' ys H3)):=by
 intro D hD;have sz:=GK;refine⟨λi m ys H'=>m=ns.length-i/\i<=ns.length/\ys=(((ns.take i).filter p).map f).map V.int/\H'=upd H D 6.7,⟨_,rfl,Qw _,rfl,rfl⟩,?_⟩;rintro i m ys H' ⟨rfl,hi,rfl,rfl⟩;refine⟨zah,?_⟩;have hS':=(L3.same_new hD (.lst ((((ns.take i).filter p).map f).map V.int))).seq hS
 by_cases lt:i<ns.length
 .right;refine⟨⟨_,.int ns[i],hS',by rw[Ql,Qg lt];rfl⟩,λx H'' ⟨e,y⟩=>?_⟩;subst e;have ex:=y _ hS';rw[Ql,Qg lt] at ex;cases ex;show tf (some (.int ns[i])::σ) _ _
  have et:(ns.take (i+1)).filter p=(ns.take i).filter p++(if p ns[i]=true then[ns[i]] else[]):=by
   rw[Z9 lt,List.filter_append,VD];rfl
  refine ht _ _ _ ?_
  by_cases cc:p ns[i]=true
  .rw[N3 cc] at et ⊢;have hlen:((ns.take i).filter p).length<=ns.length:=QF (VZ _ _) (by rw[Zt];lia);refine he _ _ _ ⟨zah,by rw[Qf,Qf];lia,ns.length-(i+1),by lia,rfl,lt,?_,upd2 _ _ _ _⟩;rw[et,QG,QG];rfl
  .rw[N4 cc] at et ⊢;rw[Zd] at et;exact⟨ns.length-(i+1),by lia,rfl,lt,by rw[et],rfl⟩
 .left;have e:i=ns.length:=by lia
  subst e;refine⟨⟨_,hS',by rw[Qf];exact Qi _⟩,?_⟩;rw[ZJ];exact q D hD
abbrev z2i:List V->Hp->VK->Prop:=λxs H Q=>∃i j,xs = [.int i,.int j]/\Q (.int (if j > i then j else i)) H
def zld(K:Qa):Sp:=λvs H Q _=>∃(a:Addr) (ns:27.9),vs = [.ref a,.int 0]/\SqL K H a 5e1/\ns.length<=63/\∀p l s left H',H p=none->H l=none->Same H H'->DealAt H' p l s 0 left->Q 6e6 H'
section
variable {K:Qa}{O:Ob}{X:Cx}
def chD(F F':GF->GF->2.0->Prop)(fa fb fc:DE):DE:=λρ Q=>fa ρ λa=>fb ρ λb=>F a.d b.d λz=>∃k,z.d = .bool k/\(if k=true then fc ρ λc=>F' b.d c.d Q else Q (.o (.bool false)))
theorem zz7(hr:OpD K O r F)(hr':OpD K O r' F')(ha:ED K O ta fa)(hb:ED K O tb fb)(hc:ED K O tc fc):ED K O (zvi r r' ta tb tc) (chD F F' fa fb fc):=λσ H ρ Q Qd S h k=>by
 refine ha σ H ρ _ _ S h λv H1 a s1 o1 h1=>?_;refine hb σ H1 ρ _ _ 5e4 h1 λw H2 b s2 o2 h2=>?_;have p1:=s1.p S.p;have p2:=s2.p p1;have ib:=o2.is S.ok p1;refine hr H2 v w a.d b.d _ _ S.ok p2 12.1 ib h2 λz H3 c s3 o3 zz=>?_;obtain⟨kk,e,h3⟩:=zz;have iz:=o3.is S.ok p2;rw[e] at iz;cases iz;refine⟨kk,rfl,?_⟩
 cases kk with
 | true=>
   refine hc σ H3 ρ _ _ (((S.stp s1).stp s2).stp s3) h3 λx H4 d s4 o4 h4=>?_;have p3:=s3.p p2;refine hr' H4 w x b.d d.d _ _ S.ok (s4.p p3) (Is.stp s4 3.8 3.8 (Is.stp s3 3.8 3.8 ib)) (o4.is S.ok p3) h4 λz H5 r5 s5 o5 h5=>?_;exact k z H5 r5 ((((s1.trans s2).trans s3).trans s4).trans s5) (Out.ahead S.ok S.p (((s1.trans s2).trans s3).trans s4) o5) h5
 | false=>exact k _ H3 (.o (.bool false)) ((s1.trans s2).trans s3) (Is.bool false) h3
def rLeS:R2:=λx y H Q=>∃i j:Str,x = .str i/\y = .str j/\Q (.bl (!decide (j.cps.toList<i.cps.toList))) H
theorem znd:OpR X (GT .LtE) rLeS:=by
 intro pins s σ H x y v u Q I rx ry h;obtain⟨i,j,rfl,rfl,q⟩:=h;obtain⟨t,rfl⟩:=rx;obtain⟨t',rfl⟩:=ry;exact PySem.P.le_str 10.7
def leSF:GF->GF->Option R:=λd e=>match d,e with
 | .str i,.str j=>some (.o (.bool (!decide (j.cps.toList<i.cps.toList))))
 | _,_=>none
theorem zs0:OpD K O rLeS (fn2 leSF):=λH x y d e Q Qd ok p ix iy ⟨r,hr,q⟩ k=>by
 unfold leSF at hr
 split at hr
 .cases hr;cases ix;cases iy;exact⟨_,_,rfl,rfl,k _ H (.o _) 2.2 (Is.bool _) q⟩
 .cases hr
end
section
variable {ι κ:Type}{P:GJ}{w:GL}{K:Qa}{mg:0.1}{base:Heap}{k:Nat}{X:0e1}{O:1e5}{a b c:Expr}{fa fb fc:DE}{pos p:Pos}{st:Stmt}{es:8.6}{ga:DA}
theorem z6e(ho:∀i,OpR (X i) (GT op) r)(ho':∀i,OpR (X i) (GT op') r')(hd:∀j,OpD K (O j) r F)(hd':∀j,OpD K (O j) r' F')(ha:1.6)(hb:3.7)(hc:E3 K X O c fc)
 (hm:lastMarks [op,op'] [b,c]=false:=by with_unfolding_all rfl):E3 K X O (.Compare a [op,op'] [b,c] pos) (chD F F' fa fb fc) :=
 let ⟨_,p1,d1⟩:=ha;let ⟨_,p2,d2⟩:=hb;let ⟨_,p3,d3⟩:=hc;⟨_,λi=>z1y (ho i) (ho' i) (p1 i) (p2 i) (p3 i) hm,λj=>zz7 (hd j) (hd' j) (d1 j) (d2 j) (d3 j)⟩
theorem yd6(ha:1.6)(hb:3.7)(hc:E3 K X O c fc)(hm:lastMarks [.LtE,.LtE] [b,c]=false:=by with_unfolding_all rfl):E3 K X O (.Compare a [.LtE,.LtE] [b,c] pos) (chD (fn2 leSF) (fn2 leSF) fa fb fc) :=
 z6e (λi=>znd) (λi=>znd) (λ_=>zs0) (λ_=>zs0) ha hb hc hm
end
theorem z9d{P:GJ}{w:GL}{K:Qa}{mg:0.1}{base:Heap}{k:Nat}{st st0:Stmt}{rest:6e0}{N:2.4}{f₁:Addr}{fd₁:TM}(Fu:Fun K "law" "law" st f₁ fd₁)(S:FnScope 11.2 ["_law_script"] 7.2)
 (hs:zba st=st0::rest)
 (first:∀(f:Addr) (cdv:GE) (A:GN) (outer:7e5) (s:GH) (H:Hp) (E:XK),Ctx3 P w K mg base k 26.1 ->
  PS (zen P w K mg base 11.2 "law" 7.2 f cdv A outer s H E ()) st0 (tAsg (zdd (zld K) [] E0 (zal 28.4 (zal (tC 21.1) tNil))) (zau 1)))
 (body:∀(f:Addr) (cdv:GE) (A:GN) (outer:7e5) (s:GH) (H:Hp) (E:XK),Ctx3 P w K mg base k 26.1 ->
  ∃g,Ss3 K 26.1 (λj:Addr×Addr=>zko j.1 j.2) rest g/\g { nx:=λ_=>False,rt:=λr=>r = .o 13.1 } (none::some .ob::Qn N.length none)) :
 FnOk P w K mg base CX0 (k+1) f₁ fd₁ ["_law_script"] (zlr K):=by
 refine Fu.ok S (λvs H Q E h=>by obtain⟨a,ns,rfl,_⟩:=h;rfl) 0e9;obtain⟨a,ns,rfl,hS,hl,q⟩:=h;have C:=zjw (P:=P) (w:=w) (K:=K) (mg:=mg) (base:=base) (N := "_law_script" :: "_law_deal_here" :: N) (x := "law") (sc:=zag st) (f:=f₁) (cdv:=cdv) (A:=A) (outer:=outer) (s:=s) (H:=H) (E:=E) hr;obtain⟨g,⟨t,h1,h2⟩,h3⟩:=body f₁ cdv A outer s H E C;refine⟨tSeq (tAsg (zdd (zld K) [] E0 (zal 28.4 (zal (tC 21.1) tNil))) (zau 1)) t,?_,?_⟩
 .rw[hs];exact za9 (first f₁ cdv A outer s H E C) (h1 ())
 .refine⟨_,rfl,a,ns,rfl,hS,hl,λp l s left H' hp hln sm pa=>?_⟩;refine h2 (p,l) H' 2e7 _ H' _ _ _ ⟨zxh p l,⟨s,0,left,pa⟩,⟨s,0,left,pa⟩,.refl _ _,λ_ _ _ z=>z.elim,λ_ _ z=>z.elim,λi r e=>?_,?_⟩ h3 ⟨λ_ _ _ _ _ _ z=>z.elim,λ_ _ _ _ _ _ z=>z.elim,λ_ _ _ _ _ _ z=>z.elim,λH' v r _ o e=>?_⟩
  .match i with
   | 0=>cases e
   | 1=>cases e;exact⟨_,rfl,rfl⟩
   | i+2=>
     rw[J5,J5,ZA] at e
     split at e <;> cases e
  .rw[ZC];simp[L2.start]
  .subst e;cases o;exact q H'
theorem z8k{x y:Str}(h:x.cps.toList=y.cps.toList):x=y:=by
 obtain⟨⟨a⟩⟩:=x;obtain⟨⟨b⟩⟩:=y;have h:a=b:=h;rw[h]
structure DC where
 (cb cc ce m2 m3 m4:Int)
structure DC.Ok(c:DC):Prop where
 (cc:-(2 ^ 64)<c.cc/\c.cc<2 ^ 64) 
 (m2:0<c.m2/\c.m2<4294967296)
 (m3:0<c.m3/\c.m3<4294967296)
 (m4:0<c.m4/\c.m4<4294967296)
def zna(K:Qa)(c:DC):TS :=
 tSeq (tAsg (dAt "number") (zau 2))
 (tSeq (tIfS (zgw (tOp 23.4 (tVar 2) (tC 21.1)))
  (tSeq (zo1 28.4 (tC (.str "number")) (tOp (rI CDiv λi j=>.int (i / j)) (tVar 2) (tVar 1))) (tRet (tOp 8.5 (tVar 2) (tVar 1)))) zu6)
 (tSeq (tAsg (tOp 8.5 (tOp 9e8 (tOp 3e3 (dAt "seed") (tC (.int 48271))) (tC (.int c.cb))) (tC (.int 2147483647))) (zau 3))
 (tSeq (zo1 28.4 (tC (.str "seed")) (tOp 8.5 (tOp 9e8 (tOp 3e3 (tVar 3) (tC (.int c.cc))) (tC (.int c.ce))) (tC (.int c.m2))))
 (tSeq (tAsg (tOp 8.5 (tOp 3e3 (dAt "seed") (dAt "seed")) (tC (.int c.m3))) (zau 4))
 (tRet (tOp 8.5 (tOp 9e8 (tOp 3e3 (tOp 8.5 (tOp 3e3 (tVar 3) (tVar 3)) (tC (.int c.m4))) (tC (.int c.m3))) (tVar 4)) (tVar 1)))))))
def znb(K:Qa)(c:DC):TS:=tSeq (yaz K) (zna K c)
theorem zvn{K:Qa}{c:DC}(hc:c.Ok){H:Hp}{a l:Addr}{s n:Int}{ns:27.9}{m:Int}{D:Ends}(p:5e2)(m0:0<m)(m1:m<1073741824)
 (q:∀k H' s' n' ns',0<=k->k<m->DealAt H' a l s' n' ns'->PotStp a l H H'->D.rt (.int k) H'):zna K c D [some 3.0,some (.int m),none,none,none] H:=by
 refine zx9 p rfl ?_;refine⟨_,rfl,n,0,rfl,rfl,_,rfl,?_⟩;refine ite2 10.2 10.2
 .refine⟨_,rfl,_,rfl,n,m,rfl,rfl,⟨m0,m1⟩,?_⟩;refine⟨_,rfl,a,_,rfl,z2x p _,?_⟩;exact⟨_,rfl,_,rfl,n,m,rfl,rfl,m0,q _ _ s _ ns (JL _ 0.0) (Jl _ m0) (p.setN (Int.ediv_nonneg p.n0 0.0)) (.upA _)⟩
 .have s0:=p.s0;have s1:=p.s1;refine zmt p rfl ?_;refine⟨s,48271,rfl,rfl,.inl ⟨by lia,by lia⟩,?_⟩;refine⟨_,_,rfl,rfl,_,_,rfl,rfl,(show(0:Int)<2147483647 by decide),?_⟩;dsimp only;have e0:0<=(s * 48271+c.cb) % 2147483647:=JL _ 0.4;have e1:(s * 48271+c.cb) % 2147483647<2147483647:=Jl _ 0.4;generalize (s * 48271+c.cb) % 2147483647=one at e0 e1;have hm2:=hc.m2;have hm3:=hc.m3;have hm4:=hc.m4;refine⟨_,rfl,one,c.cc,rfl,rfl,.inl ⟨by lia,by lia⟩,?_⟩;refine⟨_,_,rfl,rfl,_,_,rfl,rfl,hm2.1,?_⟩;dsimp only;have f0:0<=(one * c.cc+c.ce) % c.m2:=JL _ 0.0;have f1:(one * c.cc+c.ce) % c.m2<c.m2:=Jl _ hm2.1;generalize (one * c.cc+c.ce) % c.m2=sd at f0 f1;refine⟨_,rfl,a,_,rfl,ydy p _,?_⟩;have p2:=p.setS (s':=sd) 0.0 0.0;refine zmt p2 rfl (zmt p2 rfl ?_);refine⟨sd,sd,rfl,rfl,.inl ⟨by lia,by lia⟩,_,_,rfl,rfl,hm3.1,?_⟩;have g0:0<=one * one % c.m4:=JL _ 0.0;have g1:one * one % c.m4<c.m4:=Jl _ hm4.1;refine⟨_,rfl,_,rfl,one,one,rfl,rfl,.inl ⟨by lia,by lia⟩,?_⟩;refine⟨_,_,rfl,rfl,hm4.1,_,_,rfl,rfl,.inl ⟨by lia,by lia⟩,?_⟩;refine⟨_,rfl,_,_,rfl,rfl,_,rfl,_,_,rfl,rfl,m0,?_⟩;exact q _ _ _ _ _ (JL _ 0.0) (Jl _ m0) p2 (.upA _)
theorem zz1{K:Qa}{dc:DC}(hc:dc.Ok){H:Hp}{a l:Addr}{s n:Int}{ns:27.9}{m:Int}{D:Ends}(p:5e2)(m0:0<m)(m1:m<1073741824)
 (q:∀k H' s' n' ns',0<=k->k<m->DealAt H' a l s' n' ns'->PotStp a l H H'->D.rt (.int k) H'):znb K dc D [some 3.0,some (.int m),none,none,none] H:=by
 refine⟨λc σ H'=>σ = [some 3.0,some (.int m),none,none,none]/\∃s n ns,c=ns.length/\DealAt H' a l s n ns/\PotStp a l H H',⟨_,rfl,s,n,ns,rfl,p,.refl _ _ _⟩,?_⟩;rintro c σ H1 ⟨rfl,s,n,ns,rfl,p,st⟩;have out:zna K dc D [some 3.0,some (.int m),none,none,none] H1:=zvn hc p m0 m1 λk H' s' n' ns' h1 h2 h3 h4=>q k H' s' n' ns' h1 h2 h3 (st.trans h4);refine zx9 p rfl ?_;refine⟨rfl,_,rfl,?_⟩;refine ite2 (λc=>?_) (λc=>iteF out);refine zs1 p rfl ?_;refine⟨_,_,rfl,.inl ⟨_,.of p.hl,rfl⟩,_,_,rfl,rfl,_,rfl,?_⟩;refine ite2 (λc2=>?_) (λc2=>out);have c3:=N7 c2;have hne:ns≠[]:=λe=>by rw[e] at c3;simp at c3
 obtain⟨r,x,rfl⟩:∃r x,ns=r ++ [x]:=⟨ns.dropLast,ns.getLast hne,(List.dropLast_concat_getLast hne).symm⟩;refine⟨λσ' H'=>σ' = [some 3.0,some (.int m),none,none,none]/\∃s n ns,ns.length<(r ++ [x]).length/\DealAt H' a l s n ns/\PotStp a l H H',λσ' H' ⟨e,s,n,ns,hl,h1,h2⟩=>⟨_,hl,e,s,n,ns,rfl,h1,h2⟩,?_⟩;refine zs1 p rfl ?_;have p1:DealAt (upd H1 l (.lst ((r ++ [x]).map V.int).dropLast)) a l s n r:=⟨p.ne,by rw[zac p.ne];exact p.ha,by rw[zah,QG];show some (HO.lst (List.dropLast (_ ++ [V.int x])))=_;rw[Uj],p.s0,p.s1,p.n0,λz hz=>p.ns0 z (QT _ hz)⟩;refine⟨.inl ⟨rfl,_,.of p.hl⟩,l,_,.int x,rfl,rfl,p.hl,by simp,?_⟩;refine⟨_,rfl,a,_,rfl,z2x p1 x,rfl,s,x,r,by simp,p1.setN (p.ns0 x 0.3),st.trans (PotStp.trans (.upL _) (.upA _))⟩
theorem zr0{K:Qa}{c:DC}(hc:c.Ok){O:Ob}{H:Hp}{ds:9.5}{ws:5.4}{Qr:9e0}{Q:VK}{x1 x2 x3 x4 x5:Str}(hφ:IsDeal O)(p:O.P H)(is:IsAll K 5.5 H ws ds)(q:zdi ds Qr)(kk:3e8):
 znb K c { nx:=λ_ H'=>Q .non H',rt:=Q } (L2.start [x1,x2,x3,x4,x5] (O.v::ws)) H:=by
 obtain⟨m,rfl,m0,m1,q⟩:=q;obtain⟨a,l,hv,ma,ml,h1,h2⟩:=hφ.ex;obtain⟨s,n,ns,pa⟩:=h1 H p;obtain⟨v,rfl,iv⟩:=zbe is;cases iv;rw[hv];exact zz1 hc pa m0 m1 λk H' s' n' ns' k0 k1 p' st=>kk _ (q k k0 k1) _ H' (zzx ma ml h2 pa p' st) (Is.int k)
def zy8(K:Qa)(ti ts:TE):TS :=
 tSeq (tAsg (zeq 1 (zi5 K (tSl (rSlL K) 28.4 (zom (tVar 1)) (zom (tC (.int 63))))) (zau 0) tYes (tCB z2i (zal 28.4 (zal (tOp (rI0 λi j=>.int (i-j)) (tC 21.1) 28.4) tNil)))) (zau 2))
 (tSeq (tAsg ti (zau 3))
 (tSeq (tFor (zi5 K (tVar 2)) (zau 4)
  (tAsg ts (zau 3)))
 (tRet (zth [(tC (.str "seed"),tVar 3),(tC (.str "number"),tC 21.1),(tC (.str "left"),tLR K (zeq 1 (zi5 K (tVar 2)) (zau 0) (zgw (tOp (rI0 λi j=>.bl (decide (j<=i))) 28.4 (tOp (rI CPow λi j=>.int (i ^ j.toNat)) (tC (.int 10)) (tC (.int 18))))) 28.4))]))))
theorem zus{K:Qa}{ti ts:TE}{s0:Int}(hs0:0<=s0)(hs1:s0<4294967296)(hi:∀(v v1:V) H Q,Q (.int s0) H->ti [some v,some 21.1,some v1,none,none] H Q)(hst:∀(v v1:V) (s n:Int) H Q,0<=s->s<4294967296->(∀s',0<=s'->s'<4294967296->Q (.int s') H)->ts [some v,some 21.1,some v1,some (.int s),some (.int n)] H Q){H:Hp}{Q:VK}{a:Addr}{ns:27.9}(hS:SqL K H a 5e1)(hl:ns.length<=63)
 (q:∀p l s left H',H p=none->H l=none->Same H H'->DealAt H' p l s 0 left->Q 6e6 H'):zy8 K ti ts { nx:=λ_ H'=>Q .non H',rt:=Q } [some 3.0,some 21.1,none,none,none] H:=by
 have sL:=GK;refine⟨_,rfl,_,rfl,_,rfl,63,rfl,a,_,rfl,hS,λc hc=>?_⟩;rw[z0i]
 have hcl:(cutL ns (some 0) (some 63)).length<=63:=by
  unfold cutL;rw[Zt,Z0];lia
 generalize cutL ns (some 0) (some 63)=cs at hcl;refine⟨c,rfl,⟨_,.of zah⟩,?_⟩;have g1:Same H (upd H c (.lst (cs.map V.int))):=L3.same_new hc _;refine zk3 (K:=K) (c:=c) (H:=upd H c (.lst (cs.map V.int))) (σ:=[some 3.0,some 21.1,none,none,none]) (tf:=tYes) (te:=tCB z2i (zal 28.4 (zal (tOp (rI0 λi j=>.int (i-j)) (tC 21.1) 28.4) tNil))) (λ_=>true) 21.8 (.of zah) hcl (λn H' R r=>r) (λn H' R r=>⟨_,rfl,_,rfl,0,n,rfl,rfl,n,0-n,rfl,r⟩) λd hd=>?_;have hcs:cs.filter (λ_=>true)=cs:=Ut.mpr λ_ _=>rfl;rw[hcs]
 have habs:∀n∈cs.map 21.8,0<=n:=λn hn=>by
  obtain⟨m,_,rfl⟩:=QA.mp hn
  split <;> lia
 have hal:(cs.map 21.8).length<=63:=by rw[Qf];exact hcl
 generalize cs.map 21.8=es at habs hal;have g2:Same H (upd (upd H c (.lst (cs.map V.int))) d (.lst (es.map V.int))):=g1.trans (L3.same_new hd _);generalize eH:upd (upd H c (.lst (cs.map V.int))) d (.lst (es.map V.int))=H1 at g2;have hd1:H1 d=some (.lst (es.map V.int)):=by rw[<- eH];exact zah
 refine hi _ _ _ _ ?_;refine⟨_,rfl,d,rfl,⟨_,.of hd1⟩,?_⟩;refine zzw (xs:=es.map V.int) (λi σ H'=>∃(s:Int) (o:Option V),σ = [some 3.0,some 21.1,some (.ref d),some (.int s),o]/\0<=s/\s<4294967296/\H'=H1) ?_ ?_ ?_ ?_
 .exact⟨_,none,rfl,hs0,hs1,rfl⟩
 .rintro i σ H' hi ⟨s,o,rfl,h1,h2,rfl⟩;exact .of hd1
 .rintro i x σ H' hx ⟨s,o,rfl,h1,h2,rfl⟩;rw[Ql] at hx;obtain⟨n,hn,rfl⟩:=Qv.mp hx;exact hst _ _ s n _ _ h1 h2 λs' f0 f1=>⟨_,_,rfl,f0,f1,rfl⟩
 .rintro σ H' ⟨s,o,rfl,h1,h2,rfl⟩;intro p hp;have npd:p≠d:=λz=>by rw[z,hd1] at hp;cases hp
  refine 14.5;have hd2:upd H' p (.dK []) d=some (.lst (es.map V.int)):=by rw[zac (ZD npd)];exact hd1
  refine⟨_,rfl,d,rfl,⟨_,.of hd2⟩,?_⟩;refine zk3 (tf:=zgw (tOp (rI0 λi j=>.bl (decide (j<=i))) 28.4 (tOp (rI CPow λi j=>.int (i ^ j.toNat)) (tC (.int 10)) (tC (.int 18))))) (te:=tVar 0) (λn=>decide ((10:Int) ^ (18:Int).toNat<=n)) (λn=>n) (.of hd2) hal (λn H' R r=>⟨_,rfl,10,18,rfl,rfl,⟨by decide,by decide,by decide⟩,_,_,rfl,rfl,_,rfl,r⟩) (λn H' R r=>⟨_,rfl,r⟩) λe he=>?_;rw[List.map_id'];have hfl:∀n∈es.filter (λn=>decide ((10:Int) ^ (18:Int).toNat<=n)),0<=n:=λn hn=>habs n (Je.mp hn).1;generalize es.filter (λn=>decide ((10:Int) ^ (18:Int).toNat<=n))=left at hfl;have npe:p≠e:=λz=>by rw[<- z,zah] at he;cases he
  refine⟨e,_,rfl,.of zah,λl hln=>?_⟩
  have npl:p≠l:=λz=>by
   rw[<- z,zac npe,zah] at hln;cases hln
  have nel:e≠l:=λz=>by rw[<- z,zah] at hln;cases hln
  have hlp:upd H' p (.dK []) l=none:=by rw[zac (ZD nel)] at hln;exact hln
  have hlH:H' l=none:=by rw[zac (ZD npl)] at hlp;exact hlp
  refine⟨by rw[zac npl,zac npe];exact zah,zbg s 0 l,rfl,by show 3<=15;decide,?_⟩
  have em:zcq [] (zbg s 0 l)=zbg s 0 l:=by
   have a1:¬(zc5=kNum):=by decide +kernel
   have a2:¬(zc5=zeg):=by decide +kernel
   have a3:¬(kNum=zeg):=by decide +kernel
   simp[zcq,zbg,putK,a1,a2,a3]
  rw[em];have heH:H' e=none:=by rw[zac (ZD npe)] at he;exact he
  have hm:(left.map V.int).reverse=left.reverse.map V.int:=YN.symm;rw[hm];refine q p l s left.reverse _ (g2.free hp) (g2.free hlH) (λb o eb=>?_) ⟨npl,zah,?_,h1,h2,Int.le_refl 0,λn hn=>hfl n (Yd.mp hn)⟩
  .have e1:=g2 b o eb;have n1:b≠p:=λz=>by rw[z,hp] at e1;cases e1
   have n2:b≠l:=λz=>by rw[z,hlH] at e1;cases e1
   have n3:b≠e:=λz=>by rw[z,heH] at e1;cases e1
   rw[zac n1,zac n2,zac n3,zac n1];exact e1
  .rw[zac (ZD npl)];exact zah
theorem zoi{K:Qa}{φ:Ob->Prop}(hp:∀(O:Ob) (D:Addr) (u:HO),φ O->¬O.M D->φ (O.plus D u)){O:Ob}{H:Hp}{ds:9.5}{ws:5.4}{Qr:9e0}{Q:VK}{x1 x2 x3:Str}(ok:O.Ok)(hφ:φ O)(p:O.P H)(is:IsAll K 5.5 H ws ds)(q:zg5 ds Qr)(kk:3e8):
 zj5 K (spD K φ 1 zdi) { nx:=λ_ H'=>Q .non H',rt:=Q } (L2.start [x1,x2,x3] (O.v::ws)) H:=by
 obtain⟨m,rfl,m0,m1,q⟩:=q;obtain⟨v,rfl,iv⟩:=zbe is;cases iv;have hsz:sizeLine=16777216:=GK;refine⟨_,rfl,by decide,λl hl=>?_⟩;have eabc:(Qj "abcdefghijklmnopqrstuvwxyz").cps.toList=abc:=by decide +kernel
 rw[eabc];have sl:Stp O H (upd H l (.lst (abc.map λc=>V.str (sg c)))):=.new ok hl _;have nMl:¬O.M l:=λmm=>by obtain⟨o,z⟩:=ok.here H l p mm;rw[hl] at z;cases z
 have al:∀b o,H b=some o->b≠l:=λb o e z=>by rw[z,hl] at e;cases e
 refine 4.1;refine⟨_,rfl,m,rfl,by lia,by lia,λD hD=>?_⟩;have nlD:l≠D:=λz=>by rw[<- z,zah] at hD;cases hD
 have hDH:H D=none:=Same.free (L3.same_new hl _) hD;have nMD:¬O.M D:=λmm=>by obtain⟨o,z⟩:=ok.here H D p mm;rw[hDH] at z;cases z
 have aD:∀b o,H b=some o->b≠D:=λb o e z=>by rw[z,hDH] at e;cases e
 have pl:∀{H':Hp} {b:Addr} {o:HO},¬O.M b->O.P H'->O.P (upd H' b o):=λ{H' b o} nb pp=>ok.loc H' _ (λc mc=>zac λz=>nb (z ▸ mc)) pp
 refine⟨λi c ys H'=>c=m.toNat-i/\i<=m.toNat/\H' D=some 6.7/\(∃w r:List Nat,ys=w.map (λc=>V.str (sg c))/\w.length=i/\(∀c∈w,zd2 c)/\H' l=some (.lst (r.map λc=>V.str (sg c)))/\r.length+i=26/\(∀c∈r,zd2 c)/\(w++r).Nodup) /\
  O.P H'/\(∀b o,H b=some o->¬O.M b->H' b=some o)/\TupStay H H',⟨_,rfl,Qw _,zah,⟨[],abc,rfl,rfl,by simp,by rw[zac nlD];exact zah,rfl,by unfold zd2;decide,by decide⟩,pl nMD (pl nMl p),λb o e n=>?_,λb u _ e=>?_⟩,?_⟩
 .rw[zac (aD b o e),zac (al b o e)];exact e
 .rw[zac (aD b u e),zac (al b u e)];exact e
 rintro i c ys H' ⟨rfl,hi,hDy,⟨w,r,rfl,hw,hwl,hr,hrl,hrc,hnd⟩,pp,kp,ts⟩;refine⟨hDy,?_⟩
 by_cases hlt:i<m.toNat
 .right;refine⟨hlt,λx H2 zz=>?_⟩;obtain⟨e2,_⟩:=zz;subst e2;have hr0:0<r.length:=by lia
  show tBM K "list" zkj (tVar 3) _ _ H2 _;refine⟨_,rfl,.inl ⟨rfl,_,.of hr⟩,_,rfl,?_⟩;refine⟨_,rfl,_,r.length,rfl,.inl ⟨_,.of hr,by rw[Qf]⟩,?_⟩;have okp:=(ok.plus D (w.map λc=>V.str (sg c))).plus l (r.map λc=>V.str (sg c))
  have nl2:¬(O.plus D (.lst (w.map λc=>V.str (sg c)))).M l:=λmm=>by
   rcases mm with mm|mm
   .exact nMl mm
   .exact nlD mm
  show spD K φ 1 zdi ([O.v,V.int r.length] ++ []) H2 _ E0;refine⟨_,[.int r.length],[.int r.length],λx=>∃k:Int,x = .o (.int k)/\0<=k/\k<r.length,okp,hp _ l _ (hp _ D _ hφ nMD) nl2,⟨⟨pp,hDy⟩,hr⟩,rfl,rfl,.cons (.int _) .nil,⟨_,rfl,by lia,by lia,λk k0 k1=>⟨k,rfl,k0,k1⟩⟩,?_⟩;rintro _ ⟨k,rfl,k0,k1⟩ v H3 st o3;cases o3;obtain⟨⟨p3,hD3⟩,hl3⟩:=st.p ⟨⟨pp,hDy⟩,hr⟩;have hk:k.toNat<r.length:=by lia
  have ek:k=((k.toNat:Nat):Int):=by lia
  refine⟨l,_,k,k.toNat,V.str (sg r[k.toNat]),rfl,rfl,hl3,by lia,by lia,?_,by rw[Ql,Qg hk];rfl,?_⟩
  .rw[Qf];unfold My;simp only[show ¬k<0 by lia,NB]
   first|(rw[N3 0.0])|(simp;lia)|lia
  .have ne1:D≠l:=ZD nlD;refine⟨by rw[zac ne1];exact hD3,by rw[Qf];lia,m.toNat-(i+1),by lia,rfl,hlt,zah,⟨w ++ [r[k.toNat]],r.eraseIdx k.toNat,by rw[QG];rfl,by rw[Qk,hw];rfl,λc hc=>?_,?_,?_,λc hc=>hrc c (zp0 hc),?_⟩,pl nMD (pl nMl p3),λb o e n=>?_,λb u hu e=>?_⟩
   .rcases Qx.mp hc with hc|hc
    .exact hwl c hc
    .rw[Qo.mp hc];exact hrc _ (QQ hk)
   .rw[zac nlD,zah,zne]
   .rw[YW];rw[N3 hk];lia
   .rw[Q3];refine(List.Perm.nodup_iff (Ua w ?_)).mp hnd;exact(znv hk).symm
   .rw[zac (aD b o e),zac (al b o e)]
    exact st.s b o (kp b o e n) λmm=>by
     rcases mm with (mm|mm)|mm
     .exact n mm
     .exact aD b o e mm
     .exact al b o e mm
   .rw[zac (aD b u e),zac (al b u e)];exact st.t b u hu (ts b u hu e)
 .left;have e:i=m.toNat:=by lia
  refine⟨by show m.toNat<=i;lia,?_⟩;refine⟨D,w.map sg,rfl,by rw[hDy,QK];rfl,by rw[Qf];lia,λzs z hpm hs hz=>?_⟩
  obtain⟨w2,rfl,hw2⟩:=unsg (zs:=zs) λy hy=>by
   obtain⟨c,hc,rfl⟩:=QA.mp (hpm.mem_iff.mp hy);exact⟨c,rfl,hwl c hc⟩
  have hlen:w2.length=w.length:=by have:=hpm.length_eq;simpa using this
  have hinc:w2.Pairwise (· < ·):=by
   refine zua hs ?_;have hw1:(w.map sg).Nodup:=Js.mpr ((ZO.mp hnd).1.imp λne e=>ne (z9t e));have hw3:(w2.map sg).Nodup:=hpm.symm.nodup_iff.mp hw1;exact(Js.mp hw3).imp λne e=>ne (NA sg e)
  refine⟨_,z,w2.map sg,rfl,rfl,zah,?_,?_⟩
  .rw[zw9,Qf];have e0:(Qj "").length=0:=by decide +kernel
   rw[e0];lia
  .rw[zr3];have az:∀b o,H b=some o->¬O.M b->b≠z:=λb o eb n e2=>by rw[e2] at eb;have:=kp z o eb (e2 ▸ n);rw[hz] at this;cases this
   have nMz:¬O.M z:=λmm=>by obtain⟨o,y⟩:=ok.here H' z pp mm;rw[hz] at y;cases y
   refine kk _ (q w2 0.0 hw2 hinc) _ _ ⟨λb o eb n=>by rw[zac (az b o eb n)];exact kp b o eb n,λ_=>pl nMz pp,λb u hu eb=>?_⟩ 22.4;have h1:=ts b u hu eb;rw[zac λe2=>by rw[e2,hz] at h1;cases h1];exact h1
theorem zql{K:Qa}{O:Ob}{H:Hp}{ds:9.5}{ws:5.4}{Qr:9e0}{Q:VK}{x1 x2 x3:Str}(ok:O.Ok)(hφ:IsDeal O)(p:O.P H)(is:IsAll K 5.5 H ws ds)(q:zg5 ds Qr)(kk:3e8):
 zj5 K (spD K IsDeal 1 zdi) { nx:=λ_ H'=>Q .non H',rt:=Q } (L2.start [x1,x2,x3] (O.v::ws)) H:=zoi (λO D u h n=>h.plus D u n) ok hφ p is q kk
end L3
namespace L70
open PySem PySem.Spec
open PyProof.Rows hiding St
open L2 L3
def top(i:Nat):Stmt:=PySem.Challenge.pw_lostpost_k70_whole_sayings_put_together.main.body.getD i (.Pass ⟨0,0,0,0⟩)
section
variable {P:GJ}{w:GL}{K:Qa}{mg:0.1}{base:Heap}{k:Nat}
abbrev zkh(P:GJ)(w:GL)(K:Qa)(mg:0.1)(base:Heap):Prop:=Def3 P w K mg base 1 "_law_draw" ["_law_deal_here", "_law_many"] (spD K IsDeal 1 zdi)
abbrev zu9:Stmt:=top 35
theorem ybw:FnScope ["_law_script", "_law_base", "_law_cells", "_law_number", "_law_cell"] ["_law_script", "_law_base"] (zag zu9):=1.0
theorem d_law_deal(B:7.1)(T:Top3 K mg "_law_deal" zu9):Def3 P w K mg base 1 "_law_deal" ["_law_script", "_law_base"] (zld K):=by
 obtain⟨f,fd,Fu,m⟩:=T.ex;refine⟨f,fd,Fu.ok ybw (λvs H Q E h=>by obtain⟨a,ns,rfl,_⟩:=h;rfl) 0e9,m,Fu.kp,Fu.binds 4.3⟩;obtain⟨a,ns,rfl,hS,hl,q⟩:=h;refine⟨zy8 K (tOp 9e8 (tC (.int 6271)) (tOp 3e3 (tC (.int 11)) (tVar 1))) (tOp 8.5 (tOp 9e8 (tOp 9e8 (tOp 3e3 (tVar 3) (tC (.int 69313))) (tOp 8.5 (tVar 4) (tC (.int 2147483579)))) (tC (.int 17))) (tC (.int 2147483647))),?_,zus (s0:=6271+11 * 0) 0.4 0.4 (λv v1 H Q q=>⟨_,rfl,11,0,rfl,rfl,.inl ⟨by decide,by decide⟩,6271,0,rfl,rfl,q⟩) (λv v1 s n H Q h1 h2 q=>⟨_,rfl,s,69313,rfl,rfl,.inl ⟨by lia,by lia⟩,_,rfl,n,2147483579,rfl,rfl,(show(0:Int)<2147483579 by decide),_,_,rfl,rfl,_,_,rfl,rfl,_,_,rfl,rfl,(show(0:Int)<2147483647 by decide),q _ (JL _ 0.4) (UC (Jl _ 0.4) 0.4)⟩) hS hl q⟩;have nd:(["_law_script", "_law_base", "_law_cells", "_law_number", "_law_cell"]:List Str).Nodup:=by decide +kernel
 exact(za9 (zhd (n0:=2) nd rfl rfl rfl 1 (N':=["_law_cell", "_law_script", "_law_base", "_law_cells", "_law_number", "._law_cell"]) (.of rfl 1.9) rfl (zid (zqk sl_list 6.3 (zly 12.7) (zly za2))) 20.3 (ze8 0.4) (λC s H ex=>zqh) (λC s H ex=>zfb (zvp rfl) rfl B.max ybk (zao 6.3 (zao (za8 yaa za2 6.3) za0))))
  (za9 (zbm (i:=3) nd rfl 6.1 (za8 op_add za2 (za8 op_mul za2 12.7)))
  (za9 (zpc VW rfl (zid 27.4) (zet (i:=4) nd rfl 6.1) (zcj (zbm (i:=3) nd rfl 6.1 (za8 zd6 (za8 op_add (za8 op_add (za8 op_mul 12.6 za2) (za8 zd6 (zaj (i:=4) rfl 0.9) za2)) za2) za2))))
  (zcj (ze5 (zsk (zg2 zbk 12.6 (zg2 zbk za2 (zg2 zbk (zlm (hr.hd) rfl B.list rfl B.reversed (zmm 1 (N':=["_law_cell", "_law_script", "_law_base", "_law_cells", "_law_number", "._law_cell"]) (.of rfl 1.9) rfl (zid 27.4) 20.3 (ze8 0.4) (λC s H ex=>zxg (zf5 ydf 6.3 (za8 z9w za2 za2) (zbx _))) (λC s H ex=>6.3))) zsx))) rfl rfl 0.3 0.4))))))
def dc:DC:=⟨5003,39373,60013,2147483587,2147483549,2147483563⟩
theorem ydd:dc.Ok:=⟨by decide,by decide,by decide,by decide⟩
abbrev ztz:Stmt:=top 36
theorem ya3:FnScope ["_law_deal_here", "_law_many", "_law_number", "_law_one", "_law_other"] ["_law_deal_here", "_law_many"] (zag ztz):=1.0
theorem d_law_draw(B:7.1)(T:Top3 K mg "_law_draw" ztz):Def3 P w K mg base 1 "_law_draw" ["_law_deal_here", "_law_many"] (spD K IsDeal 1 zdi):=by
 obtain⟨f,fd,Fu,m⟩:=T.ex;refine⟨f,fd,Fu.ok ya3 (zms rfl) 0e9,m,Fu.kp,Fu.binds 4.3⟩;obtain⟨O,ds,ws,Qr,ok,hφ,p,hl,rfl,is,q,kk⟩:=h;refine⟨znb K dc,?_,zr0 ydd hφ p is q kk⟩;have nd:(["_law_deal_here", "_law_many", "_law_number", "_law_one", "_law_other"]:List Str).Nodup:=by decide +kernel
 exact(za9 (zjz VW (PW.pt (zzd (zf5 ydl 4e2 za2 (zbx _)) (zsd (zf5 zue (zfb zj6 rfl B.len zqf (zao 4e2 za0)) za2 (zbx _))))) (zcj (zl1 (zd0 hr) 6.3 zbk (zq5 QU JR JS zlx 4e2) rfl)))
  (za9 (zbm (i:=2) nd rfl 6.1 4e2)
  (za9 (zou (zf5 zue 27.4 za2 (zbx _)) (za9 (zl1 (zd0 hr) 6.3 zbk (za8 z5u 27.4 12.7) rfl) (zcj (ze5 (za8 zd6 27.4 12.7)))) zm3)
  (za9 (zbm (i:=3) nd rfl 6.1 (za8 zd6 (za8 op_add (za8 op_mul 4e2 za2) za2) za2))
  (za9 (zl1 (zd0 hr) 6.3 zbk (za8 zd6 (za8 op_add (za8 op_mul 12.6 za2) za2) za2) rfl)
  (za9 (zbm (i:=4) nd rfl 6.1 (za8 zd6 (za8 op_mul 4e2 4e2) za2))
  (zcj (ze5 (za8 zd6 (za8 op_add (za8 op_mul (za8 zd6 (za8 op_mul 12.6 12.6) za2) za2) (zaj (i:=4) rfl 0.9)) 12.7)))))))))
abbrev zhp:Stmt:=top 37
theorem zuh:FnScope ["_law_deal_here", "_law_many", "_law_left"] ["_law_deal_here", "_law_many"] (zag zhp):=1.0
theorem zdr(B:7.1)(d_law_draw:zkh P w K mg base)(T:Top3 K mg "_law_alphabet" zhp):Def3 P w K mg base 2 "_law_alphabet" ["_law_deal_here", "_law_many"] (spD K IsDeal 1 zg5):=by
 obtain⟨f,fd,Fu,m⟩:=T.ex;refine⟨f,fd,Fu.ok zuh (zms rfl) 0e9,m,Fu.kp,Fu.binds 4.3⟩;obtain⟨O,ds,ws,Qr,ok,hφ,p,hl,rfl,is,q,kk⟩:=h;refine⟨zj5 K (spD K IsDeal 1 zdi),?_,zql ok hφ p is q kk⟩;have nd:(["_law_deal_here", "_law_many", "_law_left"]:List Str).Nodup:=by decide +kernel
 obtain⟨fD,fdD,G,mD,kpD,bnD⟩:=d_law_draw.ex
 exact za9 (zbm (i:=2) nd rfl 6.1 (zfj (zla rfl) rfl B.list zsm (zao zbk za0)))
  (zcj (ze5 (zc3 Jg YG YH zq9 zbk (zao (zfb zun rfl B.sorted zff (zao
   (zmm 1 (N':=["_law_k", "_law_deal_here", "_law_many", "_law_left"]) (.of rfl 1.9) rfl (zn6 rfl B.range (zao 12.7 za0))
    20.3 (ze8 0.4) (λC s H ex=>zqh)
    (λC s H ex=>zc3 QU JR JS zwe 12.6
     (zao (zes (k:=1) (by exact G) (by exact hr) rfl mD kpD bnD .nil zoq (zao 12.7 (zao (zfb zj6 rfl B.len zqf (zao 12.6 za0)) za0))) za0))) za0)) za0))))
end
end L70
namespace L3
open PySem PySem.Spec
open PyProof.Rows hiding St
open L2
section
variable {K:Qa}{O:Ob}{H₀ H H':Hp}{A:6.0}{σ:St}{ρ:DSt}
theorem Rep.setT{i:Nat}(r:5.6)(s:Stp O H H1)(stay1:∀b u,H1 b=some u->¬A i b->H' b=some u)(hW:∀b,W b->(A i b\/H b=QZ)/\∃o,H' b=some o/\OwnO o)
 (hR:T.R K (unO O 16.9) W H' v):Rep K O H₀ 16.9 H' 25.9 (ρ.set i (some (.thg T))) :=
 r.setX s stay1 hW (T.to (λb u f q=>⟨f,q⟩) (λb u w q=>⟨.inr ⟨rfl,w⟩,q⟩) 2e6 hR)
theorem Frm.setT{i:Nat}(s:Stp O H H1)(stay:∀b u,H1 b=some u->¬A i b->H' b=some u)(hW:∀b,W b->(A i b\/H b=QZ)):Frm O A H 16.9 H':=λb o e u=>⟨stay b o (s.s b o e u.1) (u.2 i),u.1,λj z=>by
 rcases z with z|z
 .exact u.2 j z.2
 .rcases hW b z.2 with y|y
  .exact u.2 i y
  .rw[e] at y;cases y⟩
theorem zju{i:Nat}(h:σ[i]? = some 3e6):σ.set i 3e6=σ:=by
 apply Z6;intro j
 by_cases e:i=j
 .subst e;rw[QC (Qc.mp h).1,h]
 .rw[QM e]
end
mutual
inductive Ow(K:Qa)(H:Hp):V->GF->List Addr->Prop
 | leaf {v d}:flat d=true->Is K 7e6 H v d->Ow K H v d []
 | list {a xs ds as}:H a=some 2.3->OwAll K H xs ds as->Ow K H 3.0 5e5 (a::as)
 | tuple {a xs ds as}:H a=some 7e3->OwAll K H xs ds as->Ow K H 3.0 2e1 as
inductive OwAll(K:Qa)(H:Hp):List V->List GF->List Addr->Prop
 | nil:OwAll K H [] [] []
 | cons {v vs d ds as bs}:Ow K H v d as->OwAll K H vs ds bs->OwAll K H (v::vs) (d::ds) (as++bs)
end
section
variable {K:Qa}{H H':Hp}{F:7.6}
mutual
theorem Ow.to(ts:TupStay H H'):∀{v d as},(∀a∈as,∀xs,H a=some 2.3->H' a=some 2.3)->Ow K H v d as->Ow K H' v d as
 | _,_,_,_,.leaf f i=>.leaf f (i.flat ts f)
 | _,_,_,h,.list q r=>.list (h _ 0.3 _ q) (OwAll.to ts (λa m=>h a (Qm _ m)) r)
 | _,_,_,h,.tuple q r=>.tuple (ts _ _ ⟨_,.inl rfl⟩ q) (OwAll.to ts h r)
theorem OwAll.to(ts:TupStay H H'):∀{vs ds as},(∀a∈as,∀xs,H a=some 2.3->H' a=some 2.3)->OwAll K H vs ds as->OwAll K H' vs ds as
 | _,_,_,_,.nil=>.nil
 | _,_,_,h,.cons r t=>.cons (Ow.to ts (λa m=>h a (QT _ m)) r) (OwAll.to ts (λa m=>h a (Q8 _ m)) t)
end
mutual
theorem Ow.mem:∀{v d as a},Ow K H v d as->a∈as->∃xs,H a=some 2.3
 | _,_,_,_,.leaf _ _,m=>(ZU m).elim
 | _,_,_,_,.list q r,m=>by
   rcases Q2.mp m with rfl|m
   .exact⟨_,q⟩
   .exact OwAll.mem r m
 | _,_,_,_,.tuple q r,m=>OwAll.mem r m
theorem OwAll.mem:∀{vs ds as a},OwAll K H vs ds as->a∈as->∃xs,H a=some 2.3
 | _,_,_,_,.nil,m=>(ZU m).elim
 | _,_,_,_,.cons r t,m=>by
   rcases Qx.mp m with m|m
   .exact Ow.mem r m
   .exact OwAll.mem t m
end
mutual
theorem Ow.is:∀{v d as},(∀a∈as,F a)->Ow K H v d as->Is K F H v d
 | _,_,_,_,.leaf f i=>i.flat 2e6 f
 | _,_,_,h,.list q r=>.list (h _ 0.3) q (OwAll.is (λa m=>h a (Qm _ m)) r)
 | _,_,_,h,.tuple q r=>.tuple (.of q) (OwAll.is h r)
theorem OwAll.is:∀{vs ds as},(∀a∈as,F a)->OwAll K H vs ds as->IsAll K F H vs ds
 | _,_,_,_,.nil=>.nil
 | _,_,_,h,.cons r t=>.cons (Ow.is (λa m=>h a (QT _ m)) r) (OwAll.is (λa m=>h a (Q8 _ m)) t)
end
theorem OwAll.length:∀{vs ds as},OwAll K H vs ds as->vs.length=ds.length
 | _,_,_,.nil=>rfl
 | _,_,_,.cons _ t=>by rw[Qq,Qq,OwAll.length t]
theorem OwAll.append:∀{vs ds as ws es bs},OwAll K H vs ds as->OwAll K H ws es bs->OwAll K H (vs++ws) (ds++es) (as++bs)
 | _,_,_,_,_,_,.nil,s=>s
 | _,_,_,_,_,_,.cons r t,s=>by rw[Q3];exact .cons r (OwAll.append t s)
theorem OwAll.flats:∀{vs ds},IsAll K F H vs ds->L3.flats ds=true->OwAll K H vs ds []
 | _,_,.nil,_=>.nil
 | _,_,.cons r t,f=>by
   rw[L3.flats,Q6] at f;exact OwAll.cons (as:=[]) (.leaf f.1 (r.flat 2e6 f.1)) (OwAll.flats t f.2)
theorem OwAll.at:∀{vs:5.4} {ds as} {k:Nat} {d},OwAll K H vs ds as->ds[k]? = some d->∃v cs rest,vs[k]? = some v/\Ow K H v d cs/\as.Perm (cs++rest) /\
 (∀H' v' d' cs',TupStay H H'->(∀a∈rest,∀xs,H a=some 2.3->H' a=some 2.3)->Ow K H' v' d' cs'->∃as',OwAll K H' (vs.set k v') (ds.set k d') as'/\as'.Perm (cs'++rest))
 | _,_,_,_,_,.nil,e=>by simp at e
 | _,_,_,0,_,.cons (as:=as) (bs:=bs) r t,e=>by
   cases e;exact⟨_,as,bs,rfl,r,.refl _,λH' v' d' cs' ts h o=>⟨_,.cons o (t.to ts h),.refl _⟩⟩
 | _,_,_,k+1,d,.cons (as:=as) (bs:=bs) r t,e=>by
   obtain⟨v,cs,rest,h1,h2,h3,h4⟩:=OwAll.at (k:=k) (d:=d) t 9.0;refine⟨v,cs,as++rest,by simpa using h1,h2,?_,λH' v' d' cs' ts h o=>?_⟩
   .exact(h3.append_left as).trans (by rw[<- Q3,<- Q3];exact YI.append_right _)
   .obtain⟨as',o1,o2⟩:=h4 H' v' d' cs' ts (λa m=>h a (Q8 _ m)) o;refine⟨_,.cons (r.to ts λa m=>h a (QT _ m)) o1,?_⟩;exact(o2.append_left as).trans (by rw[<- Q3,<- Q3];exact YI.append_right _)
end
def OwnV(p:V->Prop)(d:GF):Thg:=⟨λK F W H v=>p v/\∃as:List Addr,as.Nodup/\(∀a∈as,W a)/\Ow K H v d as,λ{K F F' W W' H H' v} hF hW ts h=>by
 obtain⟨pv,as,n,m,o⟩:=h
 exact⟨pv,as,n,λa z=>by obtain⟨xs,q⟩:=o.mem z;exact(hW a _ (m a z) q).1,o.to ts λa z xs q=>(hW a _ (m a z) q).2⟩⟩
abbrev OwnT(d:GF):Thg:=OwnV 1.4 d
def dget:GF->List Nat->Option GF
 | d,[]=>some d
 | .list ds,k::p=>match ds[k]? with
   | some d=>dget d p
   | none=>QZ
 | .tuple ds,k::p=>match ds[k]? with
   | some d=>dget d p
   | none=>QZ
 | _,_::_=>QZ
def dset:GF->List Nat->GF->GF
 | _,[],e=>e
 | .list ds,k::p,e=>match ds[k]? with
   | some d=>.list (ds.set k (dset d p e))
   | none=>.list ds
 | .tuple ds,k::p,e=>match ds[k]? with
   | some d=>.tuple (ds.set k (dset d p e))
   | none=>.tuple ds
 | d,_::_,_=>d
inductive Nd(H:Hp)(U:7.6):V->GF->List Nat->V->GF->Prop
 | nil {v d}:Nd H U v d [] v d
 | list {a xs ds k v d p w e}:U a->H a=some 2.3->xs[k]? = some v->ds[k]? = some d->Nd H U v d p w e->Nd H U 3.0 5e5 (k::p) w e
 | tuple {a xs ds k v d p w e}:H a=some 7e3->xs[k]? = some v->ds[k]? = some d->Nd H U v d p w e->Nd H U 3.0 2e1 (k::p) w e
section
variable {K:Qa}{H H':Hp}{U:7.6}
theorem Nd.to(ts:TupStay H H')(h:∀a xs,U a->H a=some 2.3->H' a=some 2.3):∀{v d p w e},Nd H U v d p w e->Nd H' U v d p w e
 | _,_,_,_,_,.nil=>.nil
 | _,_,_,_,_,.list u q h1 h2 t=>.list u (h _ _ u q) h1 h2 (t.to ts h)
 | _,_,_,_,_,.tuple q h1 h2 t=>.tuple (ts _ _ ⟨_,.inl rfl⟩ q) h1 h2 (t.to ts h)
theorem Nd.get:∀{v d p w e},Nd H U v d p w e->dget d p=some e
 | _,_,_,_,_,.nil=>rfl
 | _,_,_,_,_,.list u q h1 h2 t=>by rw[dget,h2];exact t.get
 | _,_,_,_,_,.tuple q h1 h2 t=>by rw[dget,h2];exact t.get
theorem Nd.snocL{k:Nat}(u:U a)(q:H a=some 2.3)(h1:xs[k]? = some w)(h2:ds[k]? = some e):∀{v d p},Nd H U v d p 3.0 5e5->Nd H U v d (p ++ [k]) w e
 | _,_,_,.nil=>.list u q h1 h2 .nil
 | _,_,_,.list u' q' g1 g2 t=>.list u' q' g1 g2 (t.snocL u q h1 h2)
 | _,_,_,.tuple q' g1 g2 t=>.tuple q' g1 g2 (t.snocL u q h1 h2)
theorem Nd.snocT{k:Nat}(q:H a=some 7e3)(h1:xs[k]? = some w)(h2:ds[k]? = some e):∀{v d p},Nd H U v d p 3.0 2e1->Nd H U v d (p ++ [k]) w e
 | _,_,_,.nil=>.tuple q h1 h2 .nil
 | _,_,_,.list u' q' g1 g2 t=>.list u' q' g1 g2 (t.snocT q h1 h2)
 | _,_,_,.tuple q' g1 g2 t=>.tuple q' g1 g2 (t.snocT q h1 h2)
theorem zca: ¬flat 5e5=true:=by simp[flat]
theorem znw:∀{p:0.7} {d e:GF},flat d=true->dget d p=some e->flat e=true
 | [],d,e,f,h=>by cases h;exact f
 | k::p,d,e,f,h=>by
   cases d with
   | tuple ds=>
     rw[dget] at h
     cases q:ds[k]? with
     | none=>rw[q] at h;cases h
     | some x=>
       rw[q] at h;have f':flats ds=true:=by rw[flat] at f;exact f
       exact znw (flats_iff.mp f' x (Zg q)) h
   | list ds=>exact absurd f zca
   | _=>simp[dget] at h
theorem Ow.put:∀{v0 d as p} {a:Addr} {es:9.5},Ow K H v0 d as->as.Nodup->Nd H U v0 d p 3.0 (.list es)->∃xs cs rest,H a=some 2.3/\OwAll K H xs es cs/\as.Perm (a::cs++rest) /\
 ∀H' ys es' bs,TupStay H H'->(∀b∈rest,∀zs,H b=some (.lst zs)->H' b=some (.lst zs))->H' a=some 6.7->OwAll K H' ys es' bs->∃as',Ow K H' v0 (dset d p (.list es')) as'/\as'.Perm (a::bs++rest)
 | _,_,_,[],_,_,o,nd,.nil=>by
   cases o with
   | leaf f i=>exact absurd f zca
   | list q r=>exact⟨_,_,[],q,r,by simp,λH' ys es' bs ts h hy o'=>⟨_,.list hy o',by simp⟩⟩
 | _,_,_,k::p,a,es,o,nd,t=>by
   cases t with
   | @list a0 xs ds _ v d1 _ _ _ u q h1 h2 t=>
     cases o with
     | leaf f i=>exact absurd f zca
     | @list _ xs0 ds0 as0 q0 r0=>
       rw[q] at q0;cases q0;obtain⟨v',cs,rest,g1,g2,g3,g4⟩:=r0.at h2;rw[h1] at g1;cases g1;have n0:(cs++rest).Nodup:=g3.nodup_iff.mp (QY.mp nd).2;obtain⟨ys,cs',rest',k1,k2,k3,k4⟩:=Ow.put g2 (ZO.mp n0).1 t;refine⟨ys,cs',a0::(rest'++rest),k1,k2,?_,λH' zs es' bs ts h hy o'=>?_⟩
       .have e1:as0.Perm (a::cs'++(rest'++rest)):=g3.trans (by rw[<- Q3];exact k3.append_right rest);exact(e1.cons a0).trans (UY.symm)
       .obtain⟨as1,o1,p1⟩:=k4 H' zs es' bs ts (λb m=>h b (Qm _ (QT _ m))) hy o';obtain⟨as2,o2,p2⟩:=g4 H' v _ as1 ts (λb m=>h b (Qm _ (Q8 _ m))) o1
        have es0:xs.set k v=xs:=by
         apply Z6;intro j
         by_cases e:k=j
         .subst e;rw[QC (Qc.mp h1).1,h1]
         .rw[QM e]
        rw[es0] at o2;refine⟨a0::as2,?_,?_⟩
        .rw[dset,h2];exact .list (h a0 0.3 _ q) o2
        .have e2:as2.Perm (a::bs++(rest'++rest)):=p2.trans (by rw[<- Q3];exact p1.append_right rest);exact(e2.cons a0).trans (UY.symm)
   | @tuple a0 xs ds _ v d1 _ _ _ q h1 h2 t=>
     cases o with
     | leaf f i=>
       have:=znw f (Nd.get (.tuple (U:=U) q h1 h2 t));exact absurd this zca
     | @tuple _ xs0 ds0 as0 q0 r0=>
       rw[q] at q0;cases q0;obtain⟨v',cs,rest,g1,g2,g3,g4⟩:=r0.at h2;rw[h1] at g1;cases g1;have n0:(cs++rest).Nodup:=g3.nodup_iff.mp nd;obtain⟨ys,cs',rest',k1,k2,k3,k4⟩:=Ow.put g2 (ZO.mp n0).1 t;refine⟨ys,cs',rest'++rest,k1,k2,?_,λH' zs es' bs ts h hy o'=>?_⟩
       .exact g3.trans (by rw[<- Q3];exact k3.append_right rest)
       .obtain⟨as1,o1,p1⟩:=k4 H' zs es' bs ts (λb m=>h b (QT _ m)) hy o';obtain⟨as2,o2,p2⟩:=g4 H' v _ as1 ts (λb m=>h b (Q8 _ m)) o1
        have es0:xs.set k v=xs:=by
         apply Z6;intro j
         by_cases e:k=j
         .subst e;rw[QC (Qc.mp h1).1,h1]
         .rw[QM e]
        rw[es0] at o2;refine⟨as2,?_,?_⟩
        .rw[dset,h2];exact .tuple (ts _ _ ⟨_,.inl rfl⟩ q) o2
        .exact p2.trans (by rw[<- Q3];exact p1.append_right rest)
end
section
variable {K:Qa}{O:Ob}{H₀ H H':Hp}{A:6.0}{σ:St}{ρ:DSt}
def vTr(i:Nat)(p:V->Prop:=λ_=>True):DE:=λρ Q=>∃d,ρ[i]? = some (some (.thg (OwnV p d)))/\Q (.o d)
theorem zxw{i:Nat}{d:GF}(S:Seen K O H σ ρ)(e:ρ[i]? = some (some (.thg (OwnV p d)))):∃v as,σ[i]? = some 3e6/\as.Nodup/\Ow K H v d as/\∀a∈as,¬O.M a:=by
 obtain⟨v,hv,W,hw,_,as,nd,m,o⟩:=S.at_ i _ e;exact⟨v,as,hv,nd,o,λa z=>(hw a (m a z)).1⟩
theorem z4q{i:Nat}: ED K O (tVar i) (vTr i p):=λσ H ρ Q Qd S h k=>by
 obtain⟨d,e,h⟩:=h;obtain⟨v,as,hv,nd,o,m⟩:=zxw S e;exact⟨v,hv,k _ H (.o d) 2.2 (o.is m) h⟩
abbrev DOw:=DSt->(GF->Prop)->Prop
def EOw(K:Qa)(O:Ob)(t:TE)(f:DOw):Prop :=
 ∀(σ:St) (H:Hp) (ρ:DSt) (Q:VK) (Qd:GF->Prop),Seen K O H σ ρ->f ρ Qd->(∀v H' d as,Stp O H H'->Ow K H' v d as->as.Nodup->(∀a∈as,H a=QZ)->Qd d->Q v H')->t σ H Q
def zuk(f:DE):DOw:=λρ Q=>f ρ λr=>match r with
 | .o d=>flat d=true/\Q d
 | .n ds=>flats ds=true/\Q 5e5
theorem z4v(h:5.1):EOw K O t (zuk f):=λσ H ρ Q Qd S hf k=>by
 refine h σ H ρ _ _ S hf λv H1 r s1 o1 q=>?_
 cases r with
 | o d=>exact k v H1 d [] s1 (.leaf q.1 (Is.flat 2e6 o1 q.1)) .nil (λ_ m=>(ZU m).elim) q.2
 | n ds=>
   obtain⟨a,xs,rfl,hn,hl,hs⟩:=o1;exact k _ H1 5e5 [a] s1 (.list hl (OwAll.flats hs q.1)) 0.3 (λb m=>by rw[Qo.mp m];exact hn) q.2
theorem zw0{d:GF}(s:28.3)(n:∀a∈as,¬O.M a)(o:Ow K H v d as):Ow K H' v d as:=o.to s.t λa m xs q=>s.s a _ q (n a m)
theorem zqo(ok:O.Ok)(p:O.P H)(h:H a=QZ):¬O.M a:=λm=>by obtain⟨o,z⟩:=ok.here H a p m;rw[h] at z;cases z
def z3u(i:Nat)(f:DOw):DS:=λDd ρ=>f ρ λd=>Dd.nx (ρ.set i (some (.thg (OwnT d))))
theorem z7c{i:Nat}(h:EOw K O t f):SD K O (tAsg t (zau i)) (z3u i f):=λH₀ A σ H ρ D Dd r q P=>by
 refine h σ H ρ _ _ r.seen q λv H1 d as s1 o1 n1 f1 q1=>?_;have m1:∀a∈as,¬O.M a:=λa m=>zqo r.ok r.p (f1 a m);have hW:∀b,b∈as->(A i b\/H b=QZ)/\∃o,H1 b=some o/\OwnO o:=λb m=>⟨.inr (f1 b m),by obtain⟨xs,z⟩:=o1.mem m;exact⟨_,z,.lst⟩⟩;exact P.nx _ _ H1 _ (r.setT (W:=λb=>b∈as) (T:=OwnT d) s1 (λb u e _=>e) hW ⟨trivial,as,n1,λ_ m=>m,o1⟩) (.setT s1 (λb u e _=>e) λb m=>(hW b m).1) q1
abbrev DL:=DSt->GF->(List Nat->GF->Prop)->Prop
def LocE(K:Qa)(O:Ob)(i:Nat)(t:TE)(f:DL):Prop :=
 ∀(σ:St) (H:Hp) (ρ:DSt) (Q:VK) (Qd:List Nat->GF->Prop) (U:7.6) (d:GF) (v0:V) (as:3e9) (pp:V->Prop),Seen K O H σ ρ->ρ[i]? = some (some (.thg (OwnV pp d)))->σ[i]? = some (some v0)->Ow K H v0 d as->(∀a∈as,U a)->(∀a,U a->¬O.M a)->f ρ d Qd ->
   (∀v H' p e cs,Stp O H H'->Nd H' U v0 d p v e->Ow K H' v e cs->(∀a∈cs,U a)->Qd p e->Q v H')->t σ H Q
def lVar:DL:=λ_ d Q=>Q [] d
theorem ycs{i:Nat}:LocE K O i (tVar i) lVar:=λσ H ρ Q Qd U d v0 as pp S e hv o m n hf k=>⟨v0,hv,k v0 H [] d as 2.2 .nil o m hf⟩
def kids:GF->Option (List GF)
 | .list ds=>some ds
 | .tuple ds=>some ds
 | _=>QZ
def lIx(f1:DL)(f2:DE):DL:=λρ d Q=>f1 ρ d λp e=>f2 ρ λr=>∃(z:Int) (ds:9.5) (k:Nat) (e':GF),flat e=false/\r.d = .int z/\kids e=some ds/\ixN ds.length z=some k/\ds[k]? = some e'/\Q (p ++ [k]) e'
theorem yd5{i:Nat}(h1:LocE K O i t1 f1)(h2:ED K O t2 f2):LocE K O i (tOp (rIx K) t1 t2) (lIx f1 f2):=λσ H ρ Q Qd U d v0 as pp S e hv o m n hf k=>by
 refine h1 σ H ρ _ _ U d v0 as pp S e hv o m n hf λv H1 p x cs s1 nd o1 m1 q0=>?_;refine h2 σ H1 ρ _ _ 5e4 q0 λy H2 r s2 o2 zz=>?_;obtain⟨z,ds,j,e',fl,er,ek,ix,he,q⟩:=zz;clear q0;have nd2:=nd.to s2.t λa xs u q=>s2.s a _ q (n a u);have oo:=zw0 s2 (λa z=>n a (m1 a z)) o1;have iy:=o2.is S.ok (s1.p S.p);rw[er] at iy;cases iy
 cases oo with
 | leaf f1 _=>rw[fl] at f1;cases f1
 | @list a xs ds' as' q1 r1=>
   cases ek;obtain⟨w,cs',rest,g1,g2,g3,_⟩:=r1.at he;refine .inl ⟨a,xs,z,w,rfl,rfl,.of q1,?_,k w H2 (p ++ [j]) e' cs' 4.9 (nd2.snocL (m1 a 0.3) q1 g1 he) g2 (λb z=>m1 b (Qm _ (g3.mem_iff.mpr (QT _ z)))) q⟩;unfold atI;rw[r1.length,ix];exact g1
 | @tuple a xs ds' as' q1 r1=>
   cases ek;obtain⟨w,cs',rest,g1,g2,g3,_⟩:=r1.at he;refine .inr (.inl ⟨a,xs,z,w,rfl,rfl,.of q1,?_,k w H2 (p ++ [j]) e' cs' 4.9 (nd2.snocT q1 g1 he) g2 (λb z=>m1 b (g3.mem_iff.mpr (QT _ z))) q⟩);unfold atI;rw[r1.length,ix];exact g1
def zot(i:Nat)(fl:DL)(fe:DOw)(pp:V->Prop:=λ_=>True):DS:=λDd ρ=>∃d,ρ[i]? = some (some (.thg (OwnV pp d)))/\fl ρ d λp e=>∃ds,e = .list ds/\fe ρ λx=>ds.length<sizeLine/\Dd.nx (ρ.set i (some (.thg (OwnV pp (dset d p (.list (ds ++ [x])))))))
theorem z5x{as bs:3e9}(h:as.Perm bs){a:Addr}(m:a∈bs):a∈as:=h.mem_iff.mpr m
theorem Rep.putT{i:Nat}{d:GF}{v0:V}{a:Addr}{p:0.7}{es:9.5}{H1 H2:Hp}{pp:V->Prop}(r:5.6)(e:ρ[i]? = some (some (.thg (OwnV pp d))))(hv:σ[i]? = some (some v0))(s1:Stp O H H1)(s2:Stp O H1 H2)(nd:Nd H1 (A i) v0 d p 3.0 (.list es)):
 ∃xs cs,H2 a=some 2.3/\OwAll K H2 xs es cs/\xs.length=es.length/\(∀ys,TupStay H2 (upd H2 a 6.7))/\a ∉ cs/\∀ys es' bs news,OwAll K (upd H2 a 6.7) ys es' bs->bs.Perm (cs++news)->news.Nodup->(∀b∈news,H1 b=QZ/\∃zs,H2 b=some (.lst zs)) ->
   ∃W:Addr->Prop,Rep K O H₀ 16.9 (upd H2 a 6.7) σ (ρ.set i (some (.thg (OwnV pp (dset d p (.list es'))))))/\Frm O A H 16.9 (upd H2 a 6.7):=by
 obtain⟨v1,hv1,pv,as,n0,m0,o0⟩:=r.at_ i _ e;rw[hv] at hv1;cases hv1;have nM:∀b,A i b->¬O.M b:=λb z=>(r.own i b z).2.2;have s12:=s1.trans s2;have o2:=zw0 s12 (λb m=>nM b (m0 b m)) o0;have nd2:=nd.to s2.t λb xs u q=>s2.s b _ q (nM b u);obtain⟨xs,cs,rest,hx,ox,pm,put⟩:=o2.put n0 nd2;have n1:(a::cs++rest).Nodup:=pm.nodup_iff.mp n0;have Aa:A i a:=m0 a (z5x pm 0.3);have stay:∀ys b u,H2 b=some u->¬A i b->upd H2 a 6.7 b=some u:=λys b u q z=>by rw[zac (show b≠a from λw=>z (by rw[w];exact Aa))];exact q
 have ts:∀ys,TupStay H2 (upd H2 a 6.7):=λys=>(r.stp s12).tstay (stay ys);refine⟨xs,cs,hx,ox,ox.length,ts,λz=>(QY.mp n1).1 (QT _ z),λys es' bs news oy pb nn hn=>?_⟩
 have ra:∀b∈rest,b≠a:=λb m w=>by
  subst w;exact(QY.mp n1).1 (Q8 _ m)
 obtain⟨as',o3,pm'⟩:=put _ ys es' bs (ts ys) (λb m zs q=>by rw[zac (ra b m)];exact q) zah oy
 have pf:as'.Perm (as++news):=by
  refine pm'.trans ?_;have e1:(a::bs++rest).Perm (a::(cs++news)++rest):=(pb.append_right rest).cons a;refine e1.trans ?_
  have e2:(a::(cs++news)++rest).Perm (a::cs++rest++news):=by
   show(a::(cs++news++rest)).Perm (a::(cs++rest++news));refine Gp a ?_;rw[Q3,Q3];exact YI.append_left cs
  exact e2.trans (pm.symm.append_right news)
 have fr:∀b∈news,H b=QZ:=λb m=>by
  obtain⟨h1,zs,h2⟩:=hn b m
  cases q:H b with
  | none=>rfl
  | some o=>
    have:¬O.M b:=zqo r.ok (s1.p r.p) h1;rw[s1.s b o q this] at h1;cases h1
 have nd3:as'.Nodup:=pf.nodup_iff.mpr (ZO.mpr ⟨n0,nn,λb m c m' w=>by
  subst w;obtain⟨_,⟨o,q,_⟩,_⟩:=r.own i b (m0 b m);rw[fr b m'] at q
  cases q⟩)
 have hW:∀b,b∈as'->(A i b\/H b=QZ)/\∃o,upd H2 a 6.7 b=some o/\OwnO o:=λb m=>by
  refine⟨?_,by obtain⟨zs,z⟩:=o3.mem m;exact⟨_,z,.lst⟩⟩;rcases Qx.mp (pf.mem_iff.mp m) with m|m
  .exact .inl (m0 b m)
  .exact .inr (fr b m)
 refine⟨λb=>b∈as',?_,Frm.setT s12 (stay ys) λb m=>(hW b m).1⟩;have rr:=r.setT (T:=OwnV pp (dset d p (.list es'))) (v:=v0) s12 (stay ys) hW ⟨pv,as',nd3,λ_ m=>m,o3⟩;rw[zju hv] at rr;exact rr
theorem zr5{i:Nat}(hl:LocE K O i tr fl)(he:EOw K O te fe):SD K O (zbu (tBM K "list" zci tr (zal te tNil))) (zot i fl fe pp):=λH₀ A σ H ρ D Dd r q P=>by
 obtain⟨d,e,q⟩:=q;obtain⟨v0,hv,_,as,n0,m0,o0⟩:=r.at_ i _ e;refine hl σ H ρ _ _ (A i) d v0 as pp r.seen e hv o0 m0 (λa z=>(r.own i a z).2.2) q λv H1 p x cs s1 nd o1 m1 q1=>?_;obtain⟨ds,rfl,q1⟩:=q1
 cases o1 with
 | leaf f _=>exact absurd f zca
 | @list a xs _ cs' hx ox=>
   refine⟨.inl ⟨rfl,xs,.of hx⟩,?_⟩;refine he σ H1 ρ _ _ (r.stp s1).seen q1 λw H2 y bs s2 o2 n2 f2 zz=>?_;obtain⟨hz,q2⟩:=zz;obtain⟨xs2,cs2,hx2,ox2,ln,ts,nc,put⟩:=r.putT e hv s1 s2 nd;refine⟨a,xs2,w,rfl,rfl,hx2,by rw[ln];exact hz,?_⟩
   have na:∀b∈bs,b≠a:=λb m z=>by
    have:=f2 b m;rw[z,hx] at this;cases this
   have up:∀b,b≠a->∀zs,H2 b=some (.lst zs)->upd H2 a (.lst (xs2 ++ [w])) b=some (.lst zs):=λb n zs q=>by rw[zac n];exact q
   obtain⟨W,rr,ff⟩:=put (xs2 ++ [w]) (ds ++ [y]) (cs2++(bs ++ [])) bs ((ox2.to (ts _) λb m zs q=>up b (λz=>nc (z ▸ m)) zs q).append (.cons (o2.to (ts _) λb m zs q=>up b (na b m) zs q) .nil)) (by rw[Zd]) n2 λb m=>⟨f2 b m,o2.mem m⟩;exact P.nx _ σ _ _ rr ff q2
end
def Eo3{ι κ:Type}(K:Qa)(X:0e1)(O:1e5)(e:Expr)(f:DOw):Prop:=∃t,(∀i,PE (X i) e t)/\∀j,EOw K (O j) t f
def Lo3{ι κ:Type}(K:Qa)(X:0e1)(O:1e5)(n:Nat)(e:Expr)(f:DL):Prop:=∃t,(∀i,PE (X i) e t)/\∀j,LocE K (O j) n t f
section
variable {ι κ:Type}{P:GJ}{w:GL}{K:Qa}{mg:0.1}{base:Heap}{k:Nat}{X:0e1}{O:1e5}{a b:Expr}{es:8.6}{fa fb:DE}{fo:DOw}{go:DOs}{fl:DL}{st:Stmt}{g:DS}{pos:Pos}
theorem zqw(h:1.6):Eo3 K X O a (zuk fa):=let ⟨_,p,d⟩:=h;⟨_,p,λj=>z4v (d j)⟩
theorem z2w(n:Nat)(hN:3.1:=by intro i;rfl)(hv:9.4:=by intro i;first|exact Or.inl rfl|exact Or.inr 8.4|exact Or.inr 8.3)
 (hd:1.5:=by decide) (hcd:6.4:=by decide):Lo3 K X O n 17.1 lVar:=⟨_,λi=>zaj (hN i) (hv i) hd hcd,λj=>ycs⟩
theorem l_ix{n:Nat}(C:0.8)(ha:Lo3 K X O n a fl)(hb:3.7)(hs:zmy b:=by intro _ _;rfl):Lo3 K X O n (.Subscript a b pos) (lIx fl fb) :=
 let ⟨_,p1,d1⟩:=ha;let ⟨_,p2,d2⟩:=hb;⟨tOp (rIx K) _ _,λi=>by have h:=z2q (pos:=pos) (zv7 (X:=X i)) (p1 i) (p2 i) hs;rw[C.hK] at h;exact h,λj=>yd5 (d1 j) (d2 j)⟩
theorem ycl(n:Nat)(ha:Eo3 K X O a fo)(hN:0e7:=by intro i;exact N7 1.9)(hi:3.1:=by intro i;rfl)(hx:9.6:=by intro i;first|exact Or.inl rfl|exact Or.inr rfl)
 (hs:∀i,GV a 5e3 pos.line (X i).env=pure false:=by intro i;rfl) (hf:5.7:=by intro i;first|exact .inl rfl|exact .inr rfl):S3 K X O (.Assign [.Name x px] a pos) (z3u n fo) :=
 let ⟨_,p,d⟩:=ha;⟨_,λi=>zbm (hN i) (hi i) (hx i) (p i) (hs i) (hf i),λj=>z7c (d j)⟩
theorem yaj(n:Nat){apos cpos:Pos}(C:0.8)(hr:Lo3 K X O n a fl)(hb:Eo3 K X O b fo)
 (hbase:∀i,GM a "append" (X i).env (eval a (X i).env)=eval a (X i).env:=by intro i;rfl)
 (hfew:3e5:=by intro i;rfl)
 (hline:4.4:=by rfl) (hs:10.6:=by intro i;rfl) (hsw:∀i,GV 15.5 QZ pos.line (X i).env=pure false:=by intro i;rfl) (pp:V->Prop:=λ_=>True) :
 S3 K X O (.Expr 15.5 pos) (zot n fl fo pp):=let ⟨_,p1,d1⟩:=hr;let ⟨_,p2,d2⟩:=hb;
 ⟨zbu (tBM K "list" zci _ (zal _ tNil)),λi=>by
  have h:=zc3 (apos:=apos) (cpos:=cpos) QU Jy Jz (zeh (X:=X i)) (p1 i) 14.8 18.3 (hfew i) hline (hs i);rw[C.hK] at h
  exact zdc h (hsw i),λj=>zr5 (d1 j) (d2 j)⟩
end
end L3
namespace L3
open PySem PySem.Spec PySem.Calls
open PyProof.Rows hiding St
open L2
structure XGet(K:Qa)(C:Addr):Prop where
 ga:Ze K 3.6 "__getattribute__" = some (some (.builtin "BaseException.__getattribute__"))
 gn:Ze K 3.6 "__getattr__" = some none
 base:ZW K C 22.1=some true
 obj:ZW K C (.type "object")=some true
 dict:Vt K C=true
 cls:Ze K 3.6 "__class__" = some (some 0e4)
 cget:Vu K 0e4 "__get__" = some (some (.builtin "getset_descriptor.__get__"))
 ctk:VR K 0e4=some true
def excD(c:Str)(ns:2.4)(ds:9.5):GF:=.dict [(.str c,.tuple (ns.map .str)),(.none,.tuple ds)]
def XOut(K:Qa)(mg:0.1)(O:Ob)(H H':Hp)(C dx:Addr)(d:GF):Prop:=∃(c:Str) (ns:2.4) (xs:5.4) (ds:9.5),d=excD c ns ds/\mg c=some 3.6/\H dx=none/\H' dx=some (.xd (ns.zip xs))/\xs.length=ns.length/\IsAll K 5.5 H' xs ds
def zgx(K:Qa)(mg:0.1)(O:Ob)(H₀:Hp)(E:XK)(Qr:9e0):Prop:=∀H' C dx d,Stp O H₀ H'->XOut K mg O H₀ H' C dx d->Qr (.o d)->E 3.6 (some dx) H'
def SDx(K:Qa)(mg:0.1)(O:Ob)(E:XK)(t:TS)(g:DS):Prop :=
 ∀(H₀:Hp) (A:6.0) (σ:St) (H:Hp) (ρ:DSt) (D:Ends) (Dd:DEnds),Rep K O H₀ A H σ ρ->g Dd ρ->Post K O H₀ A H D Dd->zgx K mg O H₀ E Dd.rt->t D σ H
section
variable {K:Qa}{mg:0.1}{O:Ob}{E:XK}
theorem XOut.ahead{d:GF}(ok:O.Ok)(p:O.P H)(s:Stp O H H1)(h:XOut K mg O H1 H2 C dx d):XOut K mg O H H2 C dx d:=by
 obtain⟨c,ns,xs,ds,e,m,n,q,l,i⟩:=h;have nm:¬O.M dx:=λz=>by obtain⟨o,w⟩:=ok.here H1 dx (s.p p) z;rw[n] at w;cases w
 exact⟨c,ns,xs,ds,e,m,s.s.free nm n,q,l,i⟩
theorem zkk(h:SD K O t g):SDx K mg O E t g:=λH₀ A σ H ρ D Dd r q P _=>h H₀ A σ H ρ D Dd r q P
theorem zl0(h:SDx K mg O E t g)(h':SDx K mg O E u k):SDx K mg O E (tSeq t u) (seqD g k):=λH₀ A σ H ρ D Dd r q P XP=>
 h H₀ A σ H ρ _ _ r q ⟨λA' σ' H' ρ' r' f q'=>h' H₀ A' σ' H' ρ' D Dd r' q' (P.frm f) XP,P.bk,P.ct,P.rt⟩ XP
theorem zxu{c:TT}(hc:TD K O c fc)(h:SDx K mg O E t g)(h':SDx K mg O E u k):SDx K mg O E (tIfS c t u) (ifS fc g k):=λH₀ A σ H ρ D Dd r q P XP=>by
 refine hc σ H ρ _ _ r.seen q λb H1 s1 q1=>?_
 cases b with
 | true=>exact h H₀ A σ H1 ρ D Dd (r.stp s1) q1 25.0 XP
 | false=>exact h' H₀ A σ H1 ρ D Dd (r.stp s1) q1 25.0 XP
theorem z4z{wi:TI}(hs:SrcR K O wi f)(hg:GR K O tg g)(hb:SDx K mg O E tb gb):SDx K mg O E (tFor wi tg tb) (forS f g gb):=λH₀ A σ H ρ D Dd r q P XP=>by
 refine hs H₀ A σ H ρ _ _ r q λJ H1 ds B W uB go=>?_;have r1:=r.stp W.st;have f1:Frm O A H A H1:=.stp W.st;refine⟨λi m σ2 H2=>m=ds.length-i/\i<=ds.length/\∃A2 ρ2,Rep K O H₀ A2 H2 σ2 ρ2/\Frm O A H1 A2 H2/\zdg g gb Dd (ds.drop i) ρ2,⟨ds.length,rfl,Qw _,A,ρ,r1,.refl,by simpa using go⟩,?_⟩;rintro i m σ2 H2 ⟨rfl,hi,A2,ρ2,r2,f2,go2⟩;have kB:∀a o,B a->H1 a=some o->H2 a=some o:=λa o b e=>(f2 a o e (uB a b)).1;have ts:TupStay H1 H2:=r1.tupStay f2
 by_cases hlt:i<ds.length
 .right;have hd:ds[i]? = some ds[i]:=Qg hlt;rw[Q4 hlt] at go2;obtain⟨fl,go2⟩:=go2;obtain⟨hgo,hy⟩:=W.item H2 i ds[i] kB ts hd (.inl fl);refine 28.2;obtain⟨sm,ix⟩:=hy x H3 y;have st3:Stp O H2 H3:=.same r2.ok sm;have r3:=r2.stp st3;refine hg H₀ A2 σ2 H3 ρ2 x ds[i] _ _ r3 fl (Is.flat (TupStay.refl H3) ix fl) go2 λA3 σ3 ρ3 r3' f3 q3=>?_;have f13:Frm O A H1 A3 H3:=(f2.trans (.stp st3)).trans f3;exact hb H₀ A3 σ3 H3 ρ3 _ _ r3' q3 ⟨λA' σ' H' ρ' r' f' q'=>23.2,λA' σ' H' ρ' r' f' q'=>P.nx A' σ' H' ρ' r' (f1.trans (f13.trans f')) q',λA' σ' H' ρ' r' f' q'=>23.2,P.rt⟩ XP
 .left;have e:i=ds.length:=by lia
  subst e;rw[ZF] at go2;exact⟨W.stop H2 _ kB ts (Qi _),P.nx A2 σ2 H2 ρ2 r2 (f1.trans f2) go2⟩
def zpw(c:Str)(ns:2.4)(f:DA):DS:=λDd ρ=>f ρ λds=>ds.length=ns.length/\Dd.rt (.o (excD c ns ds))
theorem zxe{c:Str}(hm:mg c=some 3.6)(h:AD K O t f):SDx K mg O E (zwl C ns E t) (zpw c ns f):=λH₀ A σ H ρ D Dd r q P XP=>by
 refine h σ H ρ _ _ r.seen q λvs H1 ds s1 is ⟨hl,q1⟩=>⟨by rw[is.length];exact hl,λd hd=>?_⟩;have s2:Stp O H1 (upd H1 d 25.1):=.new r.ok hd _;have st:=r.st.trans s1;have nm:¬O.M d:=λz=>by obtain⟨o,w⟩:=r.ok.here H1 d (s1.p r.p) z;rw[hd] at w;cases w
 exact XP _ C d _ (st.trans s2) ⟨c,ns,vs,ds,rfl,hm,st.s.free nm hd,zah,by rw[is.length];exact hl,is.stp s2 3.8 3.8⟩ q1
def spX(K:Qa)(mg:0.1)(φ:Ob->Prop)(n:Nat)(f:6.8):Sp:=λvs H Q E=>
 ∃(O:Ob) (ds:9.5) (Qr:9e0),O.Ok/\φ O/\O.P H/\ds.length=n/\IsAll K 5.5 H vs ds/\f ds Qr/\(∀r,Qr r->∀v H',Stp O H H'->Out K O H H' v r->Q v H')/\zgx K mg O H E Qr
theorem z5i{φ:Ob->Prop}{n:Nat}{f:6.8}{ps:2.4}(hn:ps.length=n):∀vs H Q E,spX K mg φ n f vs H Q E->vs.length=ps.length:=λvs H Q E zz=>by obtain⟨O,ds,_,_,_,_,h,is,_⟩:=zz;rw[is.length,h,hn]
theorem ya5(h:SDx K mg O E t g)(ok:O.Ok)(p:O.P H)(ia:IsAll K 5.5 H vs ds)
 (hg:g { nx:=λ_=>Qr 22.5,rt:=Qr } (zbz N (ds.map .im))) (hQ:3e8) (hX:zgx K mg O H E Qr):t { nx:=λ_ H'=>Q .non H',rt:=Q } (L2.start N vs) H:=by
 refine h H _ _ H _ _ _ (zhs ok p (by rw[Qf];exact ia.length) λi r e=>?_) hg 14.2 hX;rw[Ql] at e;obtain⟨d,hd,rfl⟩:=Qv.mp e;obtain⟨v,hv,iv⟩:=ia.get hd;exact⟨v,hv,.inl ⟨d,rfl,iv⟩⟩
end
structure Def3x(P:GJ)(w:GL)(K:Qa)(mg:0.1)(base:Heap)(k:Nat)(x:Str)(ps:2.4)(sp:Sp):Prop where
 ex:∃f fd,FnOk P w K mg base (CX1 P w) k f fd ps sp/\mg x=some 9.1/\Jb K 9.1=true/\Binds K fd ps []
def Sx3(K:Qa)(mg:0.1)(Y:Cx)(E:XK)(O:Ob)(s:Stmt)(g:DS):Prop:=∃t,PS Y s t/\SDx K mg O E t g
def Ssx3(K:Qa)(mg:0.1)(Y:Cx)(E:XK)(O:Ob)(s:6e0)(g:DS):Prop:=∃t,PSs Y s t/\SDx K mg O E t g
theorem PS.nox{X:Cx}{st:Stmt}{t:TS}(h:PS X.nox st t):PS X st t:=λpins s σ H D I hw=>
 GQ (h pins s σ H D (I.wish _) hw) (λ_ _ q=>q.unwish) λ_ _ z=>Zr z
theorem PA.nox(h:PA X.nox es t):PA X es t:=λpos pins s σ H Q I hw=>
 GQ (h pos pins s σ H Q (I.wish _) hw) (λ_ _ ⟨v,H',I',r,q⟩=>⟨v,H',I'.unwish,r,q⟩) λ_ _ z=>Zr z
theorem PG.nox(h:PG X.nox tg t):PG X tg t:=λpins s σ H v u Q I r hw=>
 GQ (h pins s σ H v u Q (I.wish _) r hw) (λ_ _ ⟨σ',H',I',q⟩=>⟨σ',H',I'.unwish,q⟩) λ_ _ z=>Zr z
theorem PI.nox{iter:Expr}(h:PI X.nox tg iter t):PI X tg iter t:=λpins s σ H R I hw=>
 GQ (h pins s σ H R (I.wish _) hw) (λ_ _ q=>GQ q (λ_ _ ⟨it,fp,tn,J,H2,e,I2,rest⟩=>⟨it,fp,tn,J,H2,e,I2.unwish,rest⟩) λ_ _ z=>Zr z) λ_ _ z=>Zr z
section
variable {P:GJ}{w:GL}{K:Qa}{mg:0.1}{base:Heap}{k:Nat}{Y:Cx}{E:XK}{O:Ob}{c iter tg:Expr}{ft:DT}{st:Stmt}{sts sa sb body:6e0}{g1 g2:DS}{pos:Pos}{fj:DJ}{g:DG}{hh:Nat}
theorem x_of(h:S3 K (λ_:Unit=>Y.nox) (λ_:Unit=>O) st g1):Sx3 K mg Y E O st g1:=let ⟨t,p,d⟩:=h;⟨t,PS.nox (p ()),zkk (d ())⟩
theorem zd1(h:Ss3 K (λ_:Unit=>Y.nox) (λ_:Unit=>O) sts g1):Ssx3 K mg Y E O sts g1:=let ⟨t,p,d⟩:=h;⟨t,PSs.nox (p ()),zkk (d ())⟩
theorem zlu(h:Sx3 K mg Y E O st g1):Ssx3 K mg Y E O [st] g1:=let ⟨_,p,d⟩:=h;⟨_,zcj p,d⟩
theorem zbs(h:Sx3 K mg Y E O st g1)(h':Ssx3 K mg Y E O sts g2):Ssx3 K mg Y E O (st::sts) (seqD g1 g2):=let ⟨_,p,d⟩:=h;let ⟨_,p2,d2⟩:=h';⟨_,za9 p p2,zl0 d d2⟩
theorem x_if(hc:11.3)(h:Ssx3 K mg Y E O sa g1)(h':Ssx3 K mg Y E O sb g2):Sx3 K mg Y E O (.If c sa sb pos) (ifS ft g1 g2):=let ⟨_,p,d⟩:=hc;let ⟨_,p1,d1⟩:=h;let ⟨_,p2,d2⟩:=h';⟨_,zou (PT.nox (p ())) p1 p2,zxu (d ()) d1 d2⟩
theorem ydj(B:Bdy P w Y E)(hc:Y.calm=true)(hi:J3 K (λ_:Unit=>Y.nox) (λ_:Unit=>O) tg iter fj)(hg:G3 K (λ_:Unit=>Y.nox) hh tg g)(hb:Ssx3 K mg Y E O body g1)(hs:∀x,Th iter Y.env x=pure x:=by intro _;rfl):Sx3 K mg Y E O (.For tg iter body [] pos) (forS fj g g1):=by
 obtain⟨ti,p1,d1⟩:=hi;obtain⟨tg',p2,_,d2,_⟩:=hg;obtain⟨tb,p3,d3⟩:=hb;have po:Mx (model Y.prog Y.w) Y.A Y.env Y.xe:=by rw[B.xe,B.prog,B.wld];exact Vz
 exact⟨_,zpc po hc (PI.nox (p1 ())) (PG.nox (p2 ())) p3 hs,z4z (d1 ()) (d2 O) d3⟩
theorem zf3{cpos:Pos}(B:Bdy P w Y E)(hc:Y.calm=true)(hP:Y.prog=P)(hw:Y.w=w)(hK:Y.K=K)(hmg:Y.mg=mg)(hbs:Y.base=base)(M:XMk K C f ns)(F:FnOk P w K mg base CX0 k f fd ps (zgk K ns))(hr:Room (k+1) Y.A)(hb:Binds K fd ps [])(hz:ns.length<=1000)(hm:mg x=some 3.6)
 (ha:A3 K (λ_:Unit=>Y.nox) (λ_:Unit=>O) 5e6 fa) (hg:Gl Y x:=by rfl) (hdb:1.5:=by decide) (he:GI 5e6 Y.env=(false,eval e Y.env)::GI es Y.env:=by rfl) (hpl:(Tg cpos (GI es Y.env)).any (·.1)=false:=by rfl) :
 Sx3 K mg Y E O (.Raise (some (.Call (.Name x np) 5e6 [] cpos)) none pos) (zpw x ns fa):=by
 obtain⟨t,p,d⟩:=ha;subst hP hw hK hmg hbs;exact⟨_,zz5 B hc M F hr hb hz hg hm (PA.nox (p ())) hdb he hpl,zxe hm (d ())⟩
theorem zoy{n:Nat}(T:Top3 K mg x st)(S:FnScope N ps 7.2)(hb:8e7)(hn:ps.length=n)
 (body:∀(f:Addr) (cdv:GE) (A:GN) (outer:7e5) (s:GH) (H:Hp) (E:XK) (O:Ob),φ O->Bdy P w 12.9 E->Ctx3 P w K mg base k (λ_:Unit=>(cxOf (CX1 P w) P w K mg base N x 7.2 f cdv A outer s H E).nox) ->
  ∃g,Ssx3 K mg 12.9 E O (zba st) g/\∀ds Qr,ds.length=n->F ds Qr->g { nx:=λ_=>Qr 22.5,rt:=Qr } (zbz N (ds.map .im))):Def3x P w K mg base (k+1) x ps (spX K mg φ n F):=by
 obtain⟨f,fd,Fu,m⟩:=T.ex;obtain⟨oc,od,kV,doc,pm,an,cdv,ct,osl,rfl,lk,hcd⟩:=id Fu.ex;refine⟨f,_,zow lk hcd S (z5i hn) λA outer s H vs Q E hr h=>?_,m,Fu.kp,Fu.binds hb⟩;obtain⟨O,ds,Qr,ok,hφ,p,hl,is,q,kk,kx⟩:=h;obtain⟨g,⟨t,h1,h2⟩,h3⟩:=body f cdv A outer s H E O hφ ⟨rfl,rfl,rfl,rfl,rfl,rfl⟩ 18.1;exact⟨t,h1,ya5 h2 ok p is (h3 ds Qr hl q) kk kx⟩
end
def DEf:Type:=DSt->2.0->2.0->Prop
def DAf:Type:=DSt->(List GF->Prop)->2.0->Prop
def DSf:Type:=DEnds->DSt->2.0->Prop
def zq6(N X:9e0):R->Prop
 | .o (.dict d)=>X (.o (.dict d))
 | .o .none=>N 22.5
 | .o 9e2=>N (.o 9e2)
 | .o 1e2=>N (.o 1e2)
 | .o 0e2=>N (.o 0e2)
 | .o (.list l)=>N (.o (.list l))
 | .o (.tuple l)=>N (.o (.tuple l))
 | .n l=>N (.n l)
theorem zuw{K:Qa}{O:Ob}{H H':Hp}{v:V}{N X:9e0}:∀{r:R},Out K O H H' v r->zq6 N X r->N r
 | .o (.dict d),o,h=>nomatch (show Is K 5.5 H' v (.dict d) from o)
 | .o .none,_,h=>h
 | .o 9e2,_,h=>h
 | .o (.int b),_,h=>h
 | .o (.str b),_,h=>h
 | .o (.list b),_,h=>h
 | .o (.tuple b),_,h=>h
 | .n b,_,h=>h
def EX(K:Qa)(mg:0.1)(O:Ob)(H:Hp)(E:XK)(X:9e0):Prop:=∀H' C dx d,Stp O H H'->XOut K mg O H H' C dx d->X (.o d)->E 3.6 (some dx) H'
def EDf(K:Qa)(mg:0.1)(O:Ob)(t:XK->TE)(f:DEf):Prop :=
 ∀(E:XK) (σ:St) (H:Hp) (ρ:DSt) (Q:VK) (N X:9e0),Seen K O H σ ρ->f ρ N X->(∀v H' r,Stp O H H'->Out K O H H' v r->N r->Q v H')->EX K mg O H E X->t E σ H Q
def ADf(K:Qa)(mg:0.1)(O:Ob)(t:XK->TA)(f:DAf):Prop :=
 ∀(E:XK) (σ:St) (H:Hp) (ρ:DSt) (Q:List V->Hp->Prop) (N:20.1) (X:9e0),Seen K O H σ ρ->f ρ N X->(∀vs H' ds,Stp O H H'->IsAll K 5.5 H' vs ds->N ds->Q vs H')->EX K mg O H E X->t E σ H Q
def SDf(K:Qa)(mg:0.1)(O:Ob)(t:XK->TS)(g:DSf):Prop :=
 ∀(E:XK) (H₀:Hp) (A:6.0) (σ:St) (H:Hp) (ρ:DSt) (D:Ends) (Dd:DEnds) (X:9e0),Rep K O H₀ A H σ ρ->g Dd ρ X->Post K O H₀ A H D Dd->EX K mg O H E X->t E D σ H
def calX(n:Nat)(F:6.8)(g:DA):DEf:=λρ N X=>g ρ λds=>ds.length=n/\F ds (zq6 N X)
def upE(f:DE):DEf:=λρ N _=>f ρ N
def upA(f:DA):DAf:=λρ N _=>f ρ N
def zge(f:DEf)(g:DAf):DAf:=λρ N X=>f ρ (λr=>g ρ (λds=>N (r.d::ds)) X) X
def zty(g:DAf):DEf:=λρ N X=>g ρ (λds=>ds.length<=sizeLine/\N (.o 2e1)) X
def asgF(i:Nat)(f:DEf):DSf:=λDd ρ X=>f ρ (λr=>match r with
 | .o d=>flat d=true/\Dd.nx 12.3
 | .n ds=>flats ds=true/\Dd.nx (ρ.set i 6.9)) X
section
variable {K:Qa}{mg:0.1}{O:Ob}{H₀ H H':Hp}{A:6.0}{σ:St}{ρ:DSt}{E:XK}{X:9e0}
theorem EX.stp(ok:O.Ok)(p:O.P H)(s:Stp O H H1)(h:EX K mg O H E X):EX K mg O H1 E X:=λH' C dx d s' o q=>h H' C dx d (s.trans s') (o.ahead ok p s) q
theorem z9g(h:5.1):EDf K mg O (λ_=>t) (upE f):=λ_ σ H ρ Q N _ S q k _=>h σ H ρ Q N S q k
theorem z0y{n:Nat}(hφ:φ O)(h:AD K O t g):EDf K mg O (λE=>zdd (spX K mg φ n F) [] E t) (calX n F g):=λE σ H ρ Q N X S q k kx=>by
 refine h σ H ρ _ _ S q λvs H1 ds s1 is zz=>?_;obtain⟨hn,q1⟩:=zz;rw[Zd];refine⟨O,ds,zq6 N X,S.ok,hφ,s1.p S.p,hn,is,q1,λr qr v H' s2 o2=>k v H' r 4.9 4e5 (zuw o2 qr),λH' C dx d s2 o2 q2=>kx H' C dx d 4.9 4e5 ?_⟩;obtain⟨c,ns,xs,es,rfl,_⟩:=o2;exact q2
theorem z5k:ADf K mg O (λ_=>tNil) (upA aNil):=λ_ σ H ρ Q N _ S q k _=>zpg σ H ρ Q N S q k
theorem zzt(h:EDf K mg O t f)(h':ADf K mg O u g):ADf K mg O (λE=>zal (t E) (u E)) (zge f g):=λE σ H ρ Q N X S q k kx=>by
 refine h E σ H ρ _ _ _ S q (λv H1 r s1 o1 q1=>?_) kx;refine h' E σ H1 ρ _ _ _ 5e4 q1 (λvs H2 ds s2 o2 q2=>?_) (kx.stp S.ok S.p s1);exact k (v::vs) H2 (r.d::ds) 4.9 (.cons 12.1 o2) q2
theorem z8v(h:ADf K mg O u g):EDf K mg O (λE=>tTup (u E)) (zty g):=λE σ H ρ Q N X S q k kx=>by
 refine h E σ H ρ _ _ _ S q (λvs H1 ds s1 o1 ⟨z,q⟩=>⟨by rw[o1.length];exact z,λp hp=>?_⟩) kx;have s2:Stp O H1 (upd H1 p (.tup vs)):=.new S.ok hp _;exact k _ _ (.o 2e1) 4.9 (.tuple (.of zah) (o1.stp s2 3.8 3.8)) q
theorem z6l{i:Nat}(h:EDf K mg O t f):SDf K mg O (λE=>tAsg (t E) (zau i)) (asgF i f):=λE H₀ A σ H ρ D Dd X r q P kx=>by
 refine h E σ H ρ _ _ _ r.seen q (λv H1 x s1 o1 q1=>?_) kx
 cases x with
 | o d=>
   obtain⟨fl,q1⟩:=q1;exact P.nx _ _ H1 _ ((r.stp s1).setIm (Is.flat 24.8 o1 fl)) (.setIm s1) q1
 | n ds=>
   obtain⟨fl,q1⟩:=q1;obtain⟨a,xs,rfl,hn,hl,hs⟩:=o1;exact P.nx _ _ H1 _ (r.setOwn s1 hn hl hs fl) (.setOwn s1 hn) q1
end
structure EA where
 le:Addr
 nt:Addr
 nh:Addr
 ns:Addr
 tm:Addr
 np:Addr
 ng:Addr
 nr:Addr
abbrev bmV:List GE:=[.type "ValueError",.type "Exception",.type "BaseException",.type "object"]
theorem ydi(v:GE):refuseLoop v "__setattr__" bmV=pure ():=by kernel_rfl
structure Init1(K:Qa)(f:Addr)(fl:Str):Prop where
 ex:∃(qual an0:Str) (params:No) (scope:Tu) (oc kV doc pm cdv ct:GE) (od an:4.6) (osl:3e0) (p1 p2 p3 p4:Pos),
  K.lookup f=some ⟨oc,od,.func 9e9,osl⟩/\J2 K cdv qual=true /\
  FnScope [("self" : Str),an0] [("self" : Str),an0] scope/\Vis scope "self" /\ Vis scope an0/\(an0 == ("__debug__" : Str))=false/\(an0 == ("__classdict__" : Str))=false /\
  ∀us:List GE,us.length=2->Tv 9e9 2e5=pure (([("self" : Str),an0]:List Str).zip us)
structure Raise1(K:Qa)(LE C:Addr)(os:3e9)(fl:Str):Prop where
 get:XGet K C
 lost:ZW K C (.ref LE)=some true
 val:Jj K 3.6 (.type "ValueError")=some true
 oth:∀D∈os,Jj K 3.6 (.ref D)=some false
 nof:Ze K 3.6 fl=some none
 init:∃f,XMk K C f [fl]/\Init1 K f fl
section
variable {P:GJ}{w:GL}{K:Qa}{mg:0.1}{base:Heap}{C D LE f:Addr}{os:3e9}{fl:Str}
def yb8:GE->Bool
 | .str _ _=>true
 | _=>false
theorem strKeys_of(h:(es.toList.all λe=>yb8 e.key)=true):StrKeys es:=λe he=>by
 have:=ZS.mp h e (JX.mpr he)
 cases z:e.key with
 | str n t=>exact⟨n,t,rfl⟩
 | _=>rw[z] at this;cases this
theorem z8f{b:Bool}(hm:ZW K C (.type "ValueError")=some b):Jj K 3.6 (.type "ValueError")=some b:=by
 unfold Jj;rw[N4 (show ¬(QP C == JB "ValueError")=true from λz=>nomatch beq_iff_eq.mp z)];unfold PySem.W.kitCls;simp only[show PySem.W.kitMeta "ValueError" = true by decide +kernel,NC];exact hm
theorem zg1(I:Init1 K f fl):∃fd ps,FnOk P w K mg base CX0 1 f fd ps (zgk K [fl])/\Binds K fd ps []:=by
 obtain⟨qual,an0,params,scope,oc,kV,doc,pm,cdv,ct,od,an,osl,p1,p2,p3,p4,lk,hcd,S,v0,v1,d1,d2,hb⟩:=I.ex;refine⟨_,[("self" : Str),an0],zow lk hcd S (zt7 rfl) λA outer s H vs Q E hr h=>?_,.all hb⟩;obtain⟨x,C,ys,rfl,hl,hc,hx,hq⟩:=h
 match ys,hl with
 | [y],_=>
 refine⟨_,zcj (z5o (zaj (i:=0) rfl v0 0.4 0.4) (zaj (i:=1) rfl v1 d1 d2) rfl),?_⟩;exact⟨y,rfl,.ref x,rfl,x,C,rfl,hc fl Q0,.inl ⟨hx,λd hd hdx=>hq d hd hdx⟩⟩
theorem raise1_mk{bs:2.8}{ab:Bool}{oslN:3e0}{ep:Nat}
 (h1:Ze K 3.6 "__getattribute__" = some (some (.builtin "BaseException.__getattribute__"))) (h2:Ze K 3.6 "__getattr__" = some none) (h3:ZW K C 22.1=some true) (h4:ZW K C (.type "object")=some true)
 (h5:Vt K C=true) (h6:Ze K 3.6 "__class__" = some (some 0e4)) (h7:Vu K 0e4 "__get__" = some (some (.builtin "getset_descriptor.__get__"))) (h8:VR K 0e4=some true)
 (h9:ZW K C (.ref LE)=some true) (h10:ZW K C (.type "ValueError")=some true) (h11:Ze K 3.6 fl=some none)
 (h12:K.lookup C=some (MU nm q C N bs (.ref LE::bmV) true sn sub ab col dd k0 k1 k2 k3 k5 "ValueError.__new__"))
 (h13:K.lookup LE=some ⟨c0,ddL,.cls cdL,slL⟩) (h14:K.lookup cdL.ns=some ⟨ocN,odN,.dict es ep,oslN⟩) (h15:StrKeys es) (h16:nsFind es "__init__" = none)
 (h17:Ze K 3.6 "__init__" = some (some 9.1)) (h18:Uh K 9.1=some (.type "function")) (h19:Jb K 3.6=true) (h20:Ze K 3.6 "__setattr__" = some (some 24.1))
 (h21:∀D∈os,Jj K 3.6 (.ref D)=some false) (h22:Init1 K f fl):Raise1 K LE C os fl:=by
 refine⟨⟨h1,h2,h3,h4,h5,h6,h7,h8⟩,h9,z8f h10,h21,h11,f,⟨⟨nm,q,N,bs,_,bmV,sn,sub,ab,col,dd,k0,k1,k2,k3,k5, "ValueError", "ValueError.__new__", "ValueError.__init__",h12,λh x=>zt5 x h13 h14 h15 h16 .base,PySem.F.excBase_ValueError⟩,h17,h18,h19,λn hn=>?_⟩,h22⟩;rw[Qo.mp hn];refine⟨⟨_,by unfold Gv;rw[h12],rfl,rfl,?_,λv=>?_⟩,h20,h11⟩
 .simp[U8]
 .rw[refuseLoop_ref,refuseLoop_ref];exact ydi v
theorem init1_mk{qual:Str}{params:No}{scope:Tu}{kV:GE}   
 (i1:K.lookup f=some ⟨oc,od,.func 9e9,osl⟩) (i2:J2 K cdv qual=true)
 (i3:FnScope [("self" : Str),an0] [("self" : Str),an0] scope) (i4:Vis scope "self" /\ Vis scope an0) (i5:(an0 == ("__debug__" : Str))=false/\(an0 == ("__classdict__" : Str))=false)
 (i6:∀us:List GE,us.length=2->Tv 9e9 2e5=pure (([("self" : Str),an0]:List Str).zip us)):Init1 K f fl :=
 ⟨qual,an0,params,scope,oc,kV,doc,pm,cdv,ct,od,an,osl,p1,p2,p3,p4,i1,i2,i3,i4.1,i4.2,i5.1,i5.2,i6⟩
theorem no_nil:∀D∈([]:List Addr),Jj K 3.6 (.ref D)=some false:=λ_ h=>(ZU h).elim
end
def zj7(w:GL):List TL->List (Str×Str)->Prop
 | [],[]=>True
 | e::es,kv::kvs=>(e.hash=Mv w kv.1/\(∃t,e.key = .str kv.1 t)/\∃t,e.val = .str kv.2 t)/\zj7 w es kvs
 | _,_=>False
structure DctIn(K:Qa)(w:GL)(x:Str)(kvs:2e8):Prop where
 ex:∃(a:Addr) (es:Array TL) (ep:Nat),QI K mainGlobals x=some 10.0/\K.lookup a=some 6e3/\9e1=false/\zj7 w es.toList kvs/\(kvs.map (·.1)).Nodup
theorem dctIn_mk{K:Qa}{w:GL}{x:Str}{kvs:2e8}{a:Addr}{es:Array TL}{ep:Nat}(h1:QI K mainGlobals x=some 10.0)(h2:K.lookup a=some 6e3)(h3:9e1=false)(h4:zj7 w es.toList kvs)(h5:(kvs.map (·.1)).Nodup):DctIn K w x kvs:=⟨a,es,ep,h1,h2,h3,h4,h5⟩
structure GDct(K:Qa)(w:GL)(mg:0.1)(x:Str)(kvs:2e8):Prop where
 ex:∃(a:Addr) (es:Array TL) (ep:Nat),mg x=some 3.0/\K.lookup a=some 6e3/\9e1=false/\zj7 w es.toList kvs/\(kvs.map (·.1)).Nodup
theorem DctIn.glo{K:Qa}{w:GL}{x:Str}{kvs:2e8}{h:Heap}{mg:0.1}(T:DctIn K w x kvs)(X:K.In h)(G:h.Ns mainGlobals mg):GDct K w mg x kvs:=by
 obtain⟨a,es,ep,h1,h2⟩:=T.ex;exact⟨a,es,ep,YO X G h1,h2⟩
theorem zjb: ∀{es:List TL} {kvs:2e8},zj7 w es kvs->∃vs:List (Key×GE),Pairs 1e0 es vs/\KV (kvs.map λkv=>((.inr kv.1:Key),V.str kv.2)) vs/\(∀e∈es,∃k,(mixKind P w).is k e.key=true/\e.hash=(mixKind P w).hash k)
 | [],[],_=>⟨[],.nil,(show KV [] [] from .nil),λ_ h=>(ZU h).elim⟩
 | [],_::_,h=>h.elim
 | _::_,[],h=>h.elim
 | e::es,kv::kvs,h=>by
   obtain⟨⟨h1,⟨t,h2⟩,t',h3⟩,h⟩:=h;obtain⟨vs,g1,g2,g3⟩:=zjb (P:=P) h;have hk:(mixKind P w).is (.inr kv.1) e.key=true:=by rw[h2];exact zf0 P w kv.1 t
   refine⟨(.inr kv.1,.str kv.2 t')::vs,.cons hk h3 g1,.cons ⟨rfl,t',rfl⟩ g2,λe' he=>?_⟩;rcases Q2.mp he with rfl|he
   .exact⟨.inr kv.1,hk,h1⟩
   .exact g3 e' he
theorem KV.keys{kvs:0e5}{vs:16.0}(h:KV kvs vs):vs.map (·.1)=kvs.map (·.1):=by
 induction h with
 | nil=>rfl
 | cons q _ ih=>rw[Qy,Qy,ih,q.1]
theorem zh3{α β:Type}:∀{l:List β},l.Nodup->(l.map (Zc:β->Sum α β)).Nodup
 | [],_=>.nil
 | a::l,h=>by
   rw[Qy,QY];refine⟨λm=>?_,zh3 (QY.mp h).2⟩;obtain⟨b,hb,e⟩:=QA.mp m;cases e;exact(QY.mp h).1 hb
theorem zpe:∀(kvs:2e8) (k:Str),valV (kvs.map λkv=>((.inr kv.1:Key),V.str kv.2)) (.inr k)=(kvs.lookup k).map V.str
 | [],k=>rfl
 | (a,b)::kvs,k=>by
   rw[Qy,Ja]
   by_cases e:a=k
   .subst e;rw[ze1 rfl,N9];rfl
   .rw[ze2 (λz=>e (Gc z)),zpe kvs k,show(k == a)=false from beq_eq_false_iff_ne.mpr λz=>e z.symm]
section
variable {X:Cx}{e:Expr}{x:Str}{pos px:Pos}{te:TE}{kvs:2e8}
def z2p(kvs:2e8)(te:TE):TE:=λσ H Q=>te σ H λy H1=>∃k v,y = .str k/\kvs.lookup k=some v/\Q (.str v) H1
def z3q(kvs:2e8)(te:TE):TE:=λσ H Q=>te σ H λy H1=>∃k,y = .str k/\Q (.bl (!(kvs.lookup k).isSome)) H1
theorem zuc{pins:1.1}{s:GH}(I:0.6)(G:GDct X.K X.w X.mg x kvs):∃(a:Addr) (vs:16.0),X.mg x=some 3.0/\9e1=false/\s.heap.DictOf (mixKind X.prog X.w) a vs/\KV (kvs.map λkv=>((.inr kv.1:Key),V.str kv.2)) vs:=by
 obtain⟨a,es,ep,h1,h2,h3,h4,h5⟩:=G.ex;obtain⟨vs,g1,g2,g3⟩:=zjb (P:=X.prog) h4;refine⟨a,vs,h1,h3,⟨_,es,ep,I.kIn a _ h2,⟨rfl,rfl,rfl⟩,rfl,λe he=>g3 e (JX.mpr he),g1,?_⟩,g2⟩;rw[KV.keys g2,QK];have:((λx:Key×V=>x.1) ∘ λkv:Str×Str=>((.inr kv.1:Key),V.str kv.2))=(Zc ∘ λkv:Str×Str=>kv.1):=rfl;rw[this,<- QK];exact zh3 h5
theorem z6s(hg:Gl X x)(G:GDct X.K X.w X.mg x kvs)(he:9e6)(hs:NoSl e)(hd:1.5:=by decide):PE X (.Subscript 1.8 e pos) (z2p kvs te):=by
 intro pins s σ H Q I h;obtain⟨a,vs,hm,_⟩:=zuc I G;refine zme Yg.lookup hs (zdo I hg hm ?_ hd);refine thn 5.9 λiv s2 zz=>?_;obtain⟨y,H2,I2,ry,k,v,ey,lk,q2⟩:=zz;subst ey;obtain⟨a',vs,hm',hsm,dd,rel⟩:=zuc I2 G;rw[hm] at hm';cases hm';obtain⟨w',hw,rw'⟩:=RelO.some_of (v:=V.str v) (o:=M3 vs (.inr k)) (by have:=rel.val (.inr k);rwa [zpe,lk] at this);exact⟨dd.typeIs,MD (zfi (k:=.inr k) ry) dd.mapOf hw ⟨.str v,H2,I2.tok _,rw',q2⟩⟩
theorem z8z(hg:Gl X x)(G:GDct X.K X.w X.mg x kvs)(he:9e6)(hd:1.5:=by decide):PC X .NotIn e 1.8 (z3q kvs te):=by
 intro pins s σ H Q I h;refine thn 5.9 λiv s2 zz=>?_;obtain⟨y,H2,I2,ry,k,ey,q2⟩:=zz;subst ey;obtain⟨a,vs,hm,hsm,dd,rel⟩:=zuc I2 G;refine zdo I2 hg hm ?_ hd;refine wpAny_notIn_of (zfi (k:=.inr k) ry) hsm dd.mapOf ?_;have e1:=(rel.val (.inr k)).isSome_eq;rw[zpe,Vv] at e1;rw[<- e1];exact⟨.bl (!(kvs.lookup k).isSome),H2,I2.tok _,rfl,q2⟩
end
def ggD(kvs:2e8)(f:DE):DE:=λρ Q=>f ρ λr=>∃k v,r.d = .str k/\kvs.lookup k=some v/\Q (.o (.str v))
def gnD(kvs:2e8)(f:DE):DT:=λρ Q=>f ρ λr=>∃k,r.d = .str k/\Q (!(kvs.lookup k).isSome)
section
variable {K:Qa}{O:Ob}{kvs:2e8}{t:TE}{f:DE}
theorem z8g(h:5.1):ED K O (z2p kvs t) (ggD kvs f):=λσ H ρ Q Qd S hf k=>by
 refine h σ H ρ _ _ S hf λv H1 r s1 o1 zz=>?_;obtain⟨x,y,e,l,q⟩:=zz;have i:=o1.is S.ok S.p;rw[e] at i;cases i;exact⟨x,y,rfl,l,k _ H1 (.o 8e0) s1 (Is.str y) q⟩
theorem z5d(h:5.1):TD K O (tB (z3q kvs t)) (gnD kvs f):=λσ H ρ Q Qd S hf k=>by
 refine h σ H ρ _ _ S hf λv H1 r s1 o1 zz=>?_;obtain⟨x,e,q⟩:=zz;have i:=o1.is S.ok S.p;rw[e] at i;cases i;exact⟨x,rfl,_,rfl,k _ H1 s1 q⟩
end
section
variable {ι κ:Type}{P:GJ}{w:GL}{K:Qa}{mg:0.1}{base:Heap}{k:Nat}{X:0e1}{O:1e5}{a:Expr}{fa:DE}{x:Str}{pos px:Pos}{d:GF}{kvs:2e8}
theorem ycm(C:0.8)(G:GDct K w mg x kvs)(ha:1.6)(hg:8e5:=by intro i;rfl)(hs:NoSl a:=by intro _ _;rfl)(hd:1.5:=by decide):E3 K X O (.Subscript 1.8 a pos) (ggD kvs fa):=let ⟨_,p,d1⟩:=ha;
 ⟨_,λi=>z6s (hg i) 22.6 (p i) hs hd,λj=>z8g (d1 j)⟩
theorem z9n(C:0.8)(G:GDct K w mg x kvs)(ha:1.6)(hg:8e5:=by intro i;rfl)(hd:1.5:=by decide)(hm:Tf .NotIn 1.8=false:=by rfl):T3 K X O (.Compare a [.NotIn] [.Name x px] pos) (gnD kvs fa):=let ⟨_,p,d1⟩:=ha;
 ⟨_,λi=>zwb (z8z (hg i) 22.6 (p i) hd) hm,λj=>z5d (d1 j)⟩
end
def tyD:GF->String
 | .none=> "NoneType"
 | .bool _=> "bool"
 | .int _=> "int"
 | .str _=> "str"
 | .list _=> "list"
 | .tuple _=> "tuple"
 | .dict _=> "dict"
def zh8(d:GF)(T:String):Option Bool:=match T with
 | "int" =>some (match d with | .int _=>true | .bool _=>true|_=>false)
 | "bool" =>some (match d with | .bool _=>true|_=>false)
 | "str" =>some (match d with | .str _=>true|_=>false)
 | "tuple" =>some (match d with | .tuple _=>true|_=>false)
 | "list" =>some (match d with | .list _=>true|_=>false)
 | _=>none
theorem zdq(K:Qa){d:GF}{b:Bool}(h:zh8 d T=some b)(hd:∀kvs,d≠.dict kvs):Jj K (.type (tyD d)) (.type T)=some b:=by
 unfold zh8 at h
 split at h
 all_goals first
  | (cases h;cases d <;> first|rfl|exact absurd rfl (hd _))
  | cases h
def tIsI(K:Qa)(T:String)(te:TE):TE:=λσ H Q=>te σ H λv H1=>∃F d b,Is K F H1 v d/\zh8 d T=some b/\Q (.bl b) H1
theorem zrz{pins:1.1}{s:GH}{d:GF}{b:Bool}(I:0.6)(rx:RelV x u)(is:Is X.K F H x d)(e:zh8 d T=some b)(h:∀tk,Q 9e2 { s with toks:=tk }):
 wpAny 0.5 A (call (.builtin "isinstance") [u,.type T]) Q E s:=by
 cases is with
 | none=>exact zd4 I rx .non 17.4 h
 | bool y=>exact zd4 I rx (.bl y) 17.4 h
 | int i=>exact zd4 I rx 1e2 17.4 h
 | str y=>exact zd4 I rx 8e0 17.4 h
 | list f q r=>exact zd4 I rx (.lst q) 17.4 h
 | @tuple a xs ds q r=>
   cases (show u=QP a from rx);obtain⟨its,_,⟨o,h1,h2,_⟩,_⟩:=I.tuple q;exact Zz U4 I.kIn ⟨o,h1,h2⟩ (zdq X.K (d:=.tuple ds) e λ_ z=>nomatch z) 9.9 h
theorem yb9(gi:Gl X "isinstance")(mi:X.mg "isinstance" = none)(gT:Gl X x)(mT:X.mg x=none)(hT:GY x=some (.type T))(he:9e6)(hn:20.9 := by decide)(hdb:1.5:=by decide)
 (s1:GI [e,.Name x p2] X.env=6.6::(false,eval (.Name x p2) X.env)::GI [] X.env:=by rfl) (s2:GI [e,.Name x p2] X.env=6.6::GI [.Name x p2] X.env:=by rfl) (s3:(Tg p3 (GI [.Name x p2] X.env)).any (·.1)=false:=by rfl) :
 PE X (.Call (.Name "isinstance" p1) [e,.Name x p2] [] p3) (tIsI X.K T te):=by
 intro pins s σ H Q I h;refine GW (zbt I gi mi (u:=.builtin "isinstance") 0.2 ?_);refine J4 ?_ s2 s3;rw[s1];show wpAny _ _ (Mm (6.6::(false,eval (.Name x p2) X.env) :: [])) _ _ s;refine QV (thn 5.9 λu s' zz=>?_);obtain⟨y,H1,I1,r1,F,d,b,is,ek,q⟩:=zz;refine QV (zbt I1 gT mT hT (Zu ?_) hn hdb);exact zrz I1 r1 is ek λtk=>⟨.bl b,H1,I1.tok _,rfl,q⟩
def isID(T:String)(f:DE):DE:=λρ Q=>f ρ λr=>∃b,zh8 r.d T=some b/\Q (.o 9e2)
theorem ybv{K:Qa}{O:Ob}{T:String}{t:TE}{f:DE}(h:5.1):ED K O (tIsI K T t) (isID T f):=λσ H ρ Q Qd S hf k=>by
 refine h σ H ρ _ _ S hf λv H1 r s1 o1 zz=>?_;obtain⟨b,e,q⟩:=zz;exact⟨_,r.d,b,o1.is S.ok S.p,e,k _ H1 (.o 9e2) s1 (Is.bool b) q⟩
section
variable {ι κ:Type}{P:GJ}{w:GL}{K:Qa}{mg:0.1}{base:Heap}{k:Nat}{X:0e1}{O:1e5}{a:Expr}{fa:DE}{pos p p2:Pos}
theorem yc5(C:0.8)(B:7.1)(ha:1.6)(hm:mg x=none)(hT:GY x=some (.type T):=by decide +kernel)(hg:∀i,Gl (X i) "isinstance" := by intro i;rfl)(hg2:8e5:=by intro i;rfl)(hn:20.9 := by decide)(hdb:1.5:=by decide)
 (s1:∀i,GI [a,.Name x p2] (X i).env=4.2::(false,eval (.Name x p2) (X i).env)::GI [] (X i).env:=by intro i;rfl) (s2:∀i,GI [a,.Name x p2] (X i).env=4.2::GI [.Name x p2] (X i).env:=by intro i;rfl) (s3:∀i,(Tg pos (GI [.Name x p2] (X i).env)).any (·.1)=false:=by intro i;rfl) :
 E3 K X O (.Call (.Name "isinstance" p) [a,.Name x p2] [] pos) (isID T fa) :=
 let ⟨_,q,d⟩:=ha;⟨_,λi=>by
  have h:=yb9 (p1:=p) (p3:=pos) (hg i) (by rw[C.hmg];exact B.isinstance) (hg2 i) (by rw[C.hmg];exact hm) hT (q i) hn hdb (s1 i) (s2 i) (s3 i);rw[C.hK] at h
  exact h,λj=>ybv (d j)⟩
end
def Ey3(K:Qa)(mg:0.1)(Y:Cx)(E:XK)(O:Ob)(e:Expr)(f:DEf):Prop:=∃t:XK->TE,PE Y e (t E)/\EDf K mg O t f
section
variable {P:GJ}{w:GL}{K:Qa}{mg:0.1}{base:Heap}{k:Nat}{Y:Cx}{E:XK}{O:Ob}{a:Expr}{es:8.6}{ga:DA}{fa:DE}{ff:DEf}{pos p:Pos}
theorem zej(h:E3 K (λ_:Unit=>Y.nox) (λ_:Unit=>O) a fa):Ey3 K mg Y E O a (upE fa):=let ⟨t,p,d⟩:=h;⟨λ_=>t,PE.nox (p ()),z9g (d ())⟩
theorem zda{k' n:Nat}(Bd:Bdy P w Y E)(C:Ctx3 P w K mg base k (λ_:Unit=>Y.nox))(D:Def3x P w K mg base k' x ps (spX K mg 1.4 n F))(ha:A3 K (λ_:Unit=>Y.nox) (λ_:Unit=>O) 6e8 ga)(hk:k'<=k:=by decide)(hg:Gl Y x:=by rfl)
 (hdb:1.5:=by decide) (he:16.7:=by rfl) (hpl:(Tg pos (GI es Y.env)).any (·.1)=false:=by rfl):Ey3 K mg Y E O 25.4 (calX n F ga):=by
 obtain⟨f,fd,G,m,kp,bn⟩:=D.ex;obtain⟨t,q,d⟩:=ha;refine⟨λE=>zdd (spX K mg 1.4 n F) [] E t,?_,z0y trivial (d ())⟩;have hP:Y.prog=P:=C.hP ();have hw:Y.w=w:=C.hw ();have hK:Y.K=K:=C.hK ();have hmg:Y.mg=mg:=C.hmg ();have hb:Y.base=base:=C.hb ();have G':FnOk Y.prog Y.w Y.K Y.mg Y.base (CX1 P w) k f fd ps (spX K mg 1.4 n F):=by rw[hP,hw,hK,hmg,hb];exact G.mono hk
 exact zes G' (C.room ()) hg (by rw[hmg];exact m) (by rw[hK];exact kp) (by rw[hK];exact bn) .nil Bd.pass (PA.nox (q ())) hdb he hpl
theorem zmr(r:5.6)(XP:zgx K mg O H₀ E Q):EX K mg O H E Q:=λH' C dx d s o q=>XP H' C dx d (r.st.trans s) (o.ahead r.ok r.p0 r.st) q
def asgX(i:Nat)(f:DEf):DS:=λDd ρ=>f ρ (λr=>match r with
 | .o d=>flat d=true/\Dd.nx 12.3
 | .n ds=>flats ds=true/\Dd.nx (ρ.set i 6.9)) Dd.rt
theorem zkt(n:Nat)(h:Ey3 K mg Y E O a ff)(hN:Y.N.Nodup:=by exact N7 1.9)(hi:Y.N[n]? = some x:=by rfl)(hx:Loc Y.env.scope x:=by first|exact Or.inl rfl|exact Or.inr rfl)
 (hs:GV a 5e3 pos.line Y.env=pure false:=by rfl) (hf:15.7:=by first|exact .inl rfl|exact .inr rfl):Sx3 K mg Y E O (.Assign [.Name x px] a pos) (asgX n ff) :=
 let ⟨t,p,d⟩:=h;⟨tAsg (t E) (zau n),zbm hN hi hx p hs hf,λH₀ A σ H ρ D Dd r q P XP=>z6l d E H₀ A σ H ρ D Dd Dd.rt r q P (zmr r XP)⟩
end
def noX(F:6.8):List GF->2.0->Prop:=λds Q=>F ds λr=>(∀c ns es,r≠.o (excD c ns es))/\Q r
theorem toO{P:GJ}{w:GL}{K:Qa}{mg:0.1}{base:Heap}{k n:Nat}{x:Str}{ps:2.4}{φ:Ob->Prop}{F:6.8}(D:Def3x P w K mg base k x ps (spX K mg φ n F)):Def3 P w K mg base k x ps (spO K φ n (noX F)):=by
 obtain⟨f,fd,ok,m,kp,b⟩:=D.ex;refine⟨f,fd,⟨λvs H Q E h=>?_,λA outer s H args us vs Q E hr he hb hv h=>?_⟩,m,kp,b⟩
 .obtain⟨O,ds,Qr,h1,h2,h3,h4,h5,h6,h7⟩:=h;exact ok.len vs H Q (λ_ _ _=>True) ⟨O,ds,_,h1,h2,h3,h4,h5,h6,λr qr v H' s o=>h7 r qr.2 v H' s o,λ_ _ _ _ _ _ _=>trivial⟩
 .obtain⟨O,ds,Qr,h1,h2,h3,h4,h5,h6,h7⟩:=h;have:=ok.run A outer s H args us vs Q (λ_ _ _=>False) hr he hb hv ⟨O,ds,_,h1,h2,h3,h4,h5,h6,λr qr v H' s o=>h7 r qr.2 v H' s o,λH' C dx d s o q=>?_⟩
  .refine TH this λr s' z=>?_
   cases r with
   | ok f=>cases f <;> exact z
   | error e=>obtain⟨_,_,_,_,_,_,_,_,_,_,_,_,_,_,q⟩:=z;exact q
  .obtain⟨c,ns,xs,es,e,_⟩:=o;exact absurd (NA R.o e) (q.1 c ns es)
structure ErrS(mg:0.1)(ea:EA):Prop where
 nt:mg "NoText" = some (.ref ea.nt)
structure ErrInS(K:Qa)(ea:EA):Prop where
 nt:QI K mainGlobals "NoText" = some (some (.ref ea.nt))
theorem errInS_mk{K:Qa}{le nt:Addr}(h0:QI K mainGlobals "LostError" = some (some (.ref le)))(h:QI K mainGlobals "NoText" = some (some (.ref nt))):ErrInS K ⟨le,nt,nt,nt,nt,nt,nt,nt⟩:=⟨h⟩
theorem ErrInS.errS{K:Qa}{mg:0.1}{ea:EA}{h:Heap}(X:K.In h)(G:h.Ns mainGlobals mg)(E:ErrInS K ea):ErrS mg ea:=⟨YO X G E.nt⟩
abbrev zfe(K:Qa)(ea:EA):Prop:=Raise1 K ea.le ea.nt [] "at"
def Ay3(K:Qa)(mg:0.1)(Y:Cx)(E:XK)(O:Ob)(es:8.6)(f:DAf):Prop:=∃t:XK->TA,PA Y es (t E)/\ADf K mg O t f
section
variable {K:Qa}{mg:0.1}{Y:Cx}{E:XK}{O:Ob}{a:Expr}{es:8.6}{ff:DEf}{gf:DAf}{pos:Pos}
theorem zhv:Ay3 K mg Y E O [] (upA aNil):=⟨λ_=>tNil,za0,z5k⟩
theorem zcr(h:Ey3 K mg Y E O a ff)(h':Ay3 K mg Y E O es gf)(hs:16.7:=by rfl):Ay3 K mg Y E O 6e8 (zge ff gf):=let ⟨t,p,d⟩:=h;let ⟨t',p',d'⟩:=h';⟨λE=>zal (t E) (t' E),zao p p' hs,zzt d d'⟩
theorem zh1{n:Nat}(h:Ay3 K mg Y E O es gf):Ey3 K mg Y E O (.Tuple es n pos) (zty gf):=let ⟨t,p,d⟩:=h;⟨λE=>tTup (t E),zym p,z8v d⟩
end
def zcd(r d:GF):GF:=.dict [(.none,r),(.none,d)]
theorem zys{d:GF}(h:zcd r d=zcd r' d'):r=r'/\d=d':=by
 unfold zcd at h;simp only[PyData.dict.injEq,Gh,Prod.mk.injEq,and_true,true_and] at h;exact h
def isEx(r:R):Prop:=∃c ns ds,r = .o (excD c ns ds)
theorem zr8{d:GF}:¬isEx (.o (zcd r d)):=λ⟨c,ns,ds,e⟩=>by
 unfold zcd excD at e;simp at e
def cutA(H:Hp)(as:3e9):Hp:=λb=>if b∈as then none else H b
section
variable {H:Hp}{as:3e9}{b:Addr}
theorem zsg(h:b∈as):cutA H as b=none:=N3 h
theorem zdm(h:b ∉ as):cutA H as b=H b:=N4 h
theorem zp2(h:cutA H as b=some o):b ∉ as/\H b=some o:=by
 by_cases m:b∈as
 .rw[zsg m] at h;cases h
 .rw[zdm m] at h;exact⟨m,h⟩
end
structure PostT(K:Qa)(O:Ob)(H₀:Hp)(A:6.0)(H:Hp)(i:Nat)(v0:V)(D:Ends)(Dd:DEnds):Prop where
 nx:∀A' σ' H' ρ',Rep K O H₀ A' H' σ' ρ'->Frm O A H A' H'->Dd.nx ρ'->D.nx σ' H'
 bk:∀A' σ' H' ρ',Rep K O H₀ A' H' σ' ρ'->Frm O A H A' H'->Dd.bk ρ'->D.bk σ' H'
 ct:∀A' σ' H' ρ',Rep K O H₀ A' H' σ' ρ'->Frm O A H A' H'->Dd.ct ρ'->D.ct σ' H'
 rt:∀A' σ' H' ρ' v r d,Rep K O H₀ A' H' σ' ρ'->ρ'[i]? = some (some (.thg (OwnV (λv=>v=v0) d)))->flat r=true->Is K 7e6 H' v r->Dd.rt (.o (zcd r d))->D.rt v H'
def SDt(K:Qa)(mg:0.1)(O:Ob)(E:XK)(i:Nat)(v0:V)(t:TS)(g:DS):Prop :=
 ∀(H₀:Hp) (A:6.0) (σ:St) (H:Hp) (ρ:DSt) (D:Ends) (Dd:DEnds),Rep K O H₀ A H σ ρ->g Dd ρ->PostT K O H₀ A H i v0 D Dd->zgx K mg O H₀ E Dd.rt->t D σ H
section
variable {K:Qa}{mg:0.1}{O:Ob}{E:XK}{i:Nat}{v0:V}
theorem PostT.frm(P:PostT K O H₀ A H i v0 D Dd)(f:Frm O A H A1 H1):PostT K O H₀ A1 H1 i v0 D Dd :=
 ⟨λA' σ' H' ρ' r' f' q=>P.nx A' σ' H' ρ' r' (f.trans f') q,λA' σ' H' ρ' r' f' q=>P.bk A' σ' H' ρ' r' (f.trans f') q,λA' σ' H' ρ' r' f' q=>P.ct A' σ' H' ρ' r' (f.trans f') q,P.rt⟩
def gOf(g:DS):DS:=λDd ρ=>g { Dd with rt:=λr=>isEx r/\Dd.rt r } ρ
theorem ybp(h:SDx K mg O E t g):SDt K mg O E i v0 t (gOf g):=λH₀ A σ H ρ D Dd r q P XP=>
 h H₀ A σ H ρ D _ r q ⟨P.nx,P.bk,P.ct,λH' v r s o ⟨⟨c,ns,ds,e⟩,_⟩=>by subst e;exact nomatch (show Is K 5.5 H' v (.dict _) from o)⟩ λH' C dx d s o q=>XP H' C dx d s o q.2
theorem z5v(h:SDt K mg O E i v0 t g)(h':SDt K mg O E i v0 u k):SDt K mg O E i v0 (tSeq t u) (seqD g k):=λH₀ A σ H ρ D Dd r q P XP=>
 h H₀ A σ H ρ _ _ r q ⟨λA' σ' H' ρ' r' f q'=>h' H₀ A' σ' H' ρ' D Dd r' q' (P.frm f) XP,P.bk,P.ct,P.rt⟩ XP
theorem z9v{c:TT}(hc:TD K O c fc)(h:SDt K mg O E i v0 t g)(h':SDt K mg O E i v0 u k):SDt K mg O E i v0 (tIfS c t u) (ifS fc g k):=λH₀ A σ H ρ D Dd r q P XP=>by
 refine hc σ H ρ _ _ r.seen q λb H1 s1 q1=>?_
 cases b with
 | true=>exact h H₀ A σ H1 ρ D Dd (r.stp s1) q1 25.0 XP
 | false=>exact h' H₀ A σ H1 ρ D Dd (r.stp s1) q1 25.0 XP
theorem zvj{c:TT}(hc:TD K O c fc)(hb:SDt K mg O E i v0 tb gb):SDt K mg O E i v0 (zgg c tb) (zgf fc gb):=λH₀ A σ H ρ D Dd r q P XP=>by
 obtain⟨W,⟨m0,w0⟩,turn⟩:=q;refine 15.0;rintro m σ2 H2 ⟨A2,ρ2,r2,f2,w2⟩;refine hc σ2 H2 ρ2 _ _ r2.seen (turn m ρ2 w2) λb H3 s3 q3=>?_;have f3:Frm O A H A2 H3:=f2.trans (.stp s3)
 cases b with
 | true=>
   refine 12.2;exact hb H₀ A2 σ2 H3 ρ2 _ _ (r2.stp s3) q3 14.6 XP
 | false=>exact P.nx A2 σ2 H3 ρ2 (r2.stp s3) f3 q3
theorem zwc{c:TT}(hc:TD K O c fc)(hb:SDx K mg O E tb gb):SDx K mg O E (zgg c tb) (zgf fc gb):=λH₀ A σ H ρ D Dd r q P XP=>by
 obtain⟨W,⟨m0,w0⟩,turn⟩:=q;refine 15.0;rintro m σ2 H2 ⟨A2,ρ2,r2,f2,w2⟩;refine hc σ2 H2 ρ2 _ _ r2.seen (turn m ρ2 w2) λb H3 s3 q3=>?_;have f3:Frm O A H A2 H3:=f2.trans (.stp s3)
 cases b with
 | true=>
   refine 12.2;exact hb H₀ A2 σ2 H3 ρ2 _ _ (r2.stp s3) q3 14.6 XP
 | false=>exact P.nx A2 σ2 H3 ρ2 (r2.stp s3) f3 q3
def retT(i:Nat)(v0:V)(f:DEf):DS:=λDd ρ=>∃d,ρ[i]? = some (some (.thg (OwnV (λv=>v=v0) d)))/\f ρ (λr=>flat r.d=true/\Dd.rt (.o (zcd r.d d))) Dd.rt
theorem z8m(h:EDf K mg O t f):SDt K mg O E i v0 (tRet (t E)) (retT i v0 f):=λH₀ A σ H ρ D Dd r q P XP=>by
 obtain⟨d,e,q⟩:=q;refine h E σ H ρ _ _ _ r.seen q (λv H1 x s1 o1 zz=>?_) (zmr r XP);obtain⟨fl,q1⟩:=zz;exact P.rt A σ H1 ρ v x.d d (r.stp s1) e fl (Is.flat 2e6 (o1.is r.ok r.p) fl) q1
def spT(K:Qa)(mg:0.1)(n:Nat)(F:List GF->GF->2.0->Prop):Sp:=λvs H Q E=>
 ∃(O:Ob) (us:5.4) (ds:9.5) (v0:V) (d:GF) (as:3e9) (Qr:9e0),O.Ok/\O.P H/\vs=us ++ [v0]/\ds.length=n/\IsAll K 7e6 H us ds/\as.Nodup/\(∀a∈as,¬O.M a)/\Ow K H v0 d as/\F ds d Qr /\
   (∀r d' v H' as',Qr (.o (zcd r d'))->flat r=true->Stp O (cutA H as) H'->Is K 7e6 H' v r->as'.Nodup->(∀a∈as',(a∈as\/H a=none)/\¬O.M a)->Ow K H' v0 d' as'->Q v H')/\zgx K mg O (cutA H as) E Qr
theorem z8q{n:Nat}{F:List GF->GF->2.0->Prop}{ps:2.4}(hn:ps.length=n+1):∀vs H Q E,spT K mg n F vs H Q E->vs.length=ps.length:=λvs H Q E zz=>by
 obtain⟨O,us,ds,v0,d,as,Qr,_,_,e,hl,is,_⟩:=zz;rw[e,Qk,is.length,hl,hn];rfl
theorem zl3(ok:O.Ok)(p:O.P H)(nm:∀a∈as,¬O.M a):Stp O (cutA H as) H/\O.P (cutA H as) :=
 have pc:O.P (cutA H as):=ok.loc H _ (λb m=>zdm λz=>nm b z m) p
 ⟨⟨λb o e _=>(zp2 e).2,λ_=>p,λb u _ e=>(zp2 e).2⟩,pc⟩
theorem zu0{d:GF}(ok:O.Ok)(p:O.P H)(is:IsAll K 7e6 H us ds)(nd:as.Nodup)(nm:∀a∈as,¬O.M a)(ow:Ow K H v0 d as):
 Rep K O (cutA H as) (λj b=>j=ds.length/\b∈as) H (L2.start N (us ++ [v0])) 26.7:=by
 obtain⟨st,pc⟩:=zl3 ok p nm;have hl:=is.length;refine⟨ok,p,pc,st,λi j a x y=>x.1.trans y.1.symm,λi a x=>?_,λi r e=>?_,?_⟩
 .obtain⟨xs,q⟩:=ow.mem x.2;exact⟨zsg x.2,⟨_,q,λus=>⟨λz=>21.7,λo z=>21.7⟩⟩,nm a x.2⟩
 .unfold zbz at e;unfold L2.start;rcases Y6 i ds.length with hi|hi
  .rw[Q7 5.0,Ql,Q7 1e7,Ql] at e
   cases q:ds[i]? with
   | none=>rw[q] at e;cases e
   | some x=>
     rw[q] at e;cases e;obtain⟨v,hv,iv⟩:=is.get q;refine⟨v,?_,iv.weak λa z=>z.elim⟩;rw[Q7 5.0,Ql,Q7 0.0,hv];rfl
  .rcases Nat.eq_or_lt_of_le hi with h0|h0
   .subst h0;rw[Q7 0.3,Ql,QN 0.3] at e;simp at e;subst e;refine⟨v0,?_,rfl,as,nd,λa m=>⟨rfl,m⟩,ow⟩;rw[Q7 5.0,Ql,QN 0.0];simp[hl]
   .rw[QN 5.0,ZA] at e
    split at e <;> cases e
 .unfold zbz L2.start;simp[hl]
theorem yd3{d:GF}(h:SDt K mg O E ds.length v0 t g)(ok:O.Ok)(p:O.P H)(is:IsAll K 7e6 H us ds)(nd:as.Nodup)(nm:∀a∈as,¬O.M a)(ow:Ow K H v0 d as)
 (hg:g { nx:=λ_=>False,rt:=Qr } 26.7)
 (hQ:∀r d' v H' as',Qr (.o (zcd r d'))->flat r=true->Stp O (cutA H as) H'->Is K 7e6 H' v r->as'.Nodup->(∀a∈as',(a∈as\/H a=none)/\¬O.M a)->Ow K H' v0 d' as'->Q v H') (hX:zgx K mg O (cutA H as) E Qr):t { nx:=λ_ H'=>Q .non H',rt:=Q } (L2.start N (us ++ [v0])) H:=by
 refine h _ _ _ H _ _ _ (zu0 ok p is nd nm ow) hg ⟨λ_ _ _ _ _ _ q=>q.elim,λ_ _ _ _ _ _ q=>q.elim,λ_ _ _ _ _ _ q=>q.elim,λA' σ' H' ρ' v r d' r' e fl iv q=>?_⟩ hX;obtain⟨w,hw,pw,as',n',m',o'⟩:=r'.at_ _ _ e;have pw':w=v0:=pw;subst pw';refine hQ r d' v H' as' q fl r'.st iv n' (λa z=>?_) o';obtain⟨h0,_,hm⟩:=r'.own _ a (m' a z);refine⟨?_,hm⟩
 by_cases ma:a∈as
 .exact .inl ma
 .rw[zdm ma] at h0;exact .inr h0
def ADt(K:Qa)(mg:0.1)(O:Ob)(m:Nat)(u:XK->TA)(g:DAf):Prop :=
 ∀(E:XK) (σ:St) (H:Hp) (ρ:DSt) (Q:List V->Hp->Prop) (N:20.1) (X:9e0) (v0:V),Seen K O H σ ρ->σ[m]? = some (some v0)->g ρ N X->(∀vs H' ds,Stp O H H'->IsAll K 5.5 H' vs ds->N ds->Q (vs ++ [v0]) H')->EX K mg O H E X->u E σ H Q
theorem z7v{m:Nat}:ADt K mg O m (λ_=>zal (tVar m) tNil) (upA aNil):=λE σ H ρ Q N X v0 S hv q k kx=>⟨v0,hv,k [] H [] 2.2 .nil q⟩
theorem z1c{m:Nat}(h:EDf K mg O t f)(h':ADt K mg O m u g):ADt K mg O m (λE=>zal (t E) (u E)) (zge f g):=λE σ H ρ Q N X v0 S hv q k kx=>by
 refine h E σ H ρ _ _ _ S q (λv H1 r s1 o1 q1=>?_) kx;refine h' E σ H1 ρ _ _ _ v0 5e4 hv q1 (λvs H2 ds s2 o2 q2=>?_) (kx.stp S.ok S.p s1);exact k (v::vs) H2 (r.d::ds) 4.9 (.cons 12.1 o2) q2
def zlt(N:GF->GF->Prop)(X:9e0):R->Prop:=λr=>(∀x d,r = .o (zcd x d)->N x d)/\(isEx r->X r)
theorem znh{d:GF}(h:N x d):zlt N X (.o (zcd x d)):=⟨λx' d' e=>by
 injection e with e;obtain⟨rfl,rfl⟩:=zys e
 exact h,λz=>absurd z zr8⟩
theorem zyq{c:Str}(h:X (.o (excD c ns ds))):zlt N X (.o (excD c ns ds)):=⟨λx d e=>absurd ⟨c,ns,ds,e.symm⟩ (zr8 (r:=x) (d:=d)),λ_=>h⟩
def z2n(i m n:Nat)(F:List GF->GF->2.0->Prop)(g:DAf):DS:=λDd ρ=>∃d,ρ[m]? = some (some (.thg (OwnT d)))/\g ρ (λds=>ds.length=n/\flats ds=true/\F ds d (zlt (λr d'=>Dd.nx ((ρ.set m (some (.thg (OwnT d')))).set i (some (.im r)))) Dd.rt)) Dd.rt
theorem z2a{i m n:Nat}(h:ADt K mg O m u g):SDx K mg O E (tAsg (zdd (spT K mg n F) [] E (u E)) (zau i)) (z2n i m n F g):=λH₀ A σ H ρ D Dd r q P XP=>by
 obtain⟨d,e,q⟩:=q;obtain⟨v0,hv,_,as,nd,am,ow⟩:=r.at_ m _ e;have nm:∀a∈as,¬O.M a:=λa z=>(r.own m a (am a z)).2.2;refine h E σ H ρ _ _ _ v0 r.seen hv q (λvs H1 ds s1 is zz=>?_) (zmr r XP);obtain⟨hn,fl,q1⟩:=zz;have r1:=r.stp s1;have ow1:Ow K H1 v0 d as:=ow.to s1.t λa z xs q=>s1.s a _ q (nm a z);have ia:IsAll K 7e6 H1 vs ds:=is.flats 2e6 fl;rw[Zd];refine⟨O,vs,ds,v0,d,as,_,r.ok,r1.p,rfl,hn,ia,nd,nm,ow1,q1,λx d' v H2 as' qr flx st iv n' m' o'=>?_,?_⟩
 .have qn:=qr.1 x d' rfl
  let Hm:Hp:=λb=>if b∈as then H1 b else H2 b
  have hm_in:∀b,b∈as->Hm b=H1 b:=λb z=>N3 z;have hm_out:∀b,b ∉ as->Hm b=H2 b:=λb z=>N4 z;have p2:O.P H2:=st.p (zl3 r.ok r1.p nm).2
  have sm:Stp O H1 Hm:=by
   refine⟨λb o eb mb=>?_,λ_=>r.ok.loc H2 _ (λb mb=>hm_out b λz=>nm b z mb) p2,λb o hu eb=>?_⟩
   .by_cases z:b∈as
    .rw[hm_in b z];exact eb
    .rw[hm_out b z];exact st.s b o (by rw[zdm z];exact eb) mb
   .by_cases z:b∈as
    .rw[hm_in b z];exact eb
    .rw[hm_out b z];exact st.t b o hu (by rw[zdm z];exact eb)
  have stay:∀b o,Hm b=some o->¬A m b->H2 b=some o:=λb o eb z=>by
   rw[hm_out b λy=>z (am b y)] at eb;exact eb
  have hW:∀b,b∈as'->(A m b\/H b=QZ)/\∃o,H2 b=some o/\OwnO o:=λb z=>by
   obtain⟨h1,h2⟩:=m' b z;obtain⟨xs,q2⟩:=o'.mem z;refine⟨?_,_,q2,λus=>⟨λz=>21.7,λo z=>21.7⟩⟩;rcases h1 with h1|h1
   .exact .inl (am b h1)
   .exact .inr (s1.s.free h2 h1)
  have rT:=r.setT (i:=m) (v:=v0) (W:=λb=>b∈as') (T:=OwnT d') (s1.trans sm) stay hW ⟨trivial,as',n',λa z=>z,o'⟩;rw[zju hv] at rT;have fT:Frm O A H (reg A m λb=>b∈as') H2:=Frm.setT (s1.trans sm) stay λb z=>(hW b z).1;exact P.nx _ _ H2 _ (rT.setIm (i:=i) (iv.weak λa z=>z.elim)) (fT.trans (.setIm 2.2)) qn
 .have sc:Stp O H₀ (cutA H1 as):=by
   have o0:∀b o,H₀ b=some o->b ∉ as:=λb o eb z=>by rw[(r.own m b (am b z)).1] at eb;cases eb
   refine⟨λb o eb mb=>?_,λ_=>(zl3 r.ok r1.p nm).2,λb o hu eb=>?_⟩
   .rw[zdm (o0 b o eb)];exact r1.st.s b o eb mb
   .rw[zdm (o0 b o eb)];exact r1.st.t b o hu eb
  intro H' C dx dd s2 o2 q2;obtain⟨c,ns,xs,es,e1,rest⟩:=id o2;exact XP H' C dx dd (sc.trans s2) (o2.ahead r.ok r.p0 sc) (q2.2 ⟨c,ns,es,by rw[e1]⟩)
end
def zls(w:GL):List TL->List (Str×Int)->Prop
 | [],[]=>True
 | e::es,kv::kvs=>(e.hash=Mv w kv.1/\(∃t,e.key = .str kv.1 t)/\∃t,e.val = .int kv.2 t)/\zls w es kvs
 | _,_=>False
structure DctII(K:Qa)(w:GL)(x:Str)(kvs:2e9):Prop where
 ex:∃(a:Addr) (es:Array TL) (ep:Nat),QI K mainGlobals x=some 10.0/\K.lookup a=some 6e3/\9e1=false/\zls w es.toList kvs/\(kvs.map (·.1)).Nodup
theorem dctII_mk{K:Qa}{w:GL}{x:Str}{kvs:2e9}{a:Addr}{es:Array TL}{ep:Nat}(h1:QI K mainGlobals x=some 10.0)(h2:K.lookup a=some 6e3)(h3:9e1=false)(h4:zls w es.toList kvs)(h5:(kvs.map (·.1)).Nodup):DctII K w x kvs:=⟨a,es,ep,h1,h2,h3,h4,h5⟩
structure GDctI(K:Qa)(w:GL)(mg:0.1)(x:Str)(kvs:2e9):Prop where
 ex:∃(a:Addr) (es:Array TL) (ep:Nat),mg x=some 3.0/\K.lookup a=some 6e3/\9e1=false/\zls w es.toList kvs/\(kvs.map (·.1)).Nodup
theorem DctII.glo{K:Qa}{w:GL}{x:Str}{kvs:2e9}{h:Heap}{mg:0.1}(T:DctII K w x kvs)(X:K.In h)(G:h.Ns mainGlobals mg):GDctI K w mg x kvs:=by
 obtain⟨a,es,ep,h1,h2⟩:=T.ex;exact⟨a,es,ep,YO X G h1,h2⟩
theorem zjl: ∀{es:List TL} {kvs:2e9},zls w es kvs->∃vs:List (Key×GE),Pairs 1e0 es vs/\KV (kvs.map λkv=>((.inr kv.1:Key),V.int kv.2)) vs/\(∀e∈es,∃k,(mixKind P w).is k e.key=true/\e.hash=(mixKind P w).hash k)
 | [],[],_=>⟨[],.nil,(show KV [] [] from .nil),λ_ h=>(ZU h).elim⟩
 | [],_::_,h=>h.elim
 | _::_,[],h=>h.elim
 | e::es,kv::kvs,h=>by
   obtain⟨⟨h1,⟨t,h2⟩,t',h3⟩,h⟩:=h;obtain⟨vs,g1,g2,g3⟩:=zjl (P:=P) h;have hk:(mixKind P w).is (.inr kv.1) e.key=true:=by rw[h2];exact zf0 P w kv.1 t
   refine⟨(.inr kv.1,.int kv.2 t')::vs,.cons hk h3 g1,.cons ⟨rfl,t',rfl⟩ g2,λe' he=>?_⟩;rcases Q2.mp he with rfl|he
   .exact⟨.inr kv.1,hk,h1⟩
   .exact g3 e' he
theorem zm1:∀(kvs:2e9) (k:Str),valV (kvs.map λkv=>((.inr kv.1:Key),V.int kv.2)) (.inr k)=(kvs.lookup k).map V.int
 | [],k=>rfl
 | (a,b)::kvs,k=>by
   rw[Qy,Ja]
   by_cases e:a=k
   .subst e;rw[ze1 rfl,N9];rfl
   .rw[ze2 (λz=>e (Gc z)),zm1 kvs k,show(k == a)=false from beq_eq_false_iff_ne.mpr λz=>e z.symm]
section
variable {X:Cx}{e:Expr}{x:Str}{pos px:Pos}{te:TE}{kvs:2e9}
def zx3(kvs:2e9)(te:TE):TE:=λσ H Q=>te σ H λy H1=>∃k v,y = .str k/\kvs.lookup k=some v/\Q (.int v) H1
def z3j(kvs:2e9)(te:TE):TE:=λσ H Q=>te σ H λy H1=>∃k,y = .str k/\Q (.bl (kvs.lookup k).isSome) H1
theorem zqd{pins:1.1}{s:GH}(I:0.6)(G:GDctI X.K X.w X.mg x kvs):∃(a:Addr) (vs:16.0),X.mg x=some 3.0/\9e1=false/\s.heap.DictOf (mixKind X.prog X.w) a vs/\KV (kvs.map λkv=>((.inr kv.1:Key),V.int kv.2)) vs:=by
 obtain⟨a,es,ep,h1,h2,h3,h4,h5⟩:=G.ex;obtain⟨vs,g1,g2,g3⟩:=zjl (P:=X.prog) h4;refine⟨a,vs,h1,h3,⟨_,es,ep,I.kIn a _ h2,⟨rfl,rfl,rfl⟩,rfl,λe he=>g3 e (JX.mpr he),g1,?_⟩,g2⟩;rw[KV.keys g2,QK];have:((λx:Key×V=>x.1) ∘ λkv:Str×Int=>((.inr kv.1:Key),V.int kv.2))=(Zc ∘ λkv:Str×Int=>kv.1):=rfl;rw[this,<- QK];exact zh3 h5
theorem z1l(hg:Gl X x)(G:GDctI X.K X.w X.mg x kvs)(he:9e6)(hs:NoSl e)(hd:1.5:=by decide):PE X (.Subscript 1.8 e pos) (zx3 kvs te):=by
 intro pins s σ H Q I h;obtain⟨a,vs,hm,_⟩:=zqd I G;refine zme Yg.lookup hs (zdo I hg hm ?_ hd);refine thn 5.9 λiv s2 zz=>?_;obtain⟨y,H2,I2,ry,k,v,ey,lk,q2⟩:=zz;subst ey;obtain⟨a',vs,hm',hsm,dd,rel⟩:=zqd I2 G;rw[hm] at hm';cases hm';obtain⟨w',hw,rw'⟩:=RelO.some_of (v:=V.int v) (o:=M3 vs (.inr k)) (by have:=rel.val (.inr k);rwa [zm1,lk] at this);exact⟨dd.typeIs,MD (zfi (k:=.inr k) ry) dd.mapOf hw ⟨.int v,H2,I2.tok _,rw',q2⟩⟩
theorem z7h(hg:Gl X x)(G:GDctI X.K X.w X.mg x kvs)(he:9e6)(hd:1.5:=by decide):PC X .In e 1.8 (z3j kvs te):=by
 intro pins s σ H Q I h;refine thn 5.9 λiv s2 zz=>?_;obtain⟨y,H2,I2,ry,k,ey,q2⟩:=zz;subst ey;obtain⟨a,vs,hm,hsm,dd,rel⟩:=zqd I2 G;refine zdo I2 hg hm ?_ hd;refine wpAny_in_of (zfi (k:=.inr k) ry) hsm dd.mapOf ?_;have e1:=(rel.val (.inr k)).isSome_eq;rw[zm1,Vv] at e1;rw[<- e1];exact⟨.bl (kvs.lookup k).isSome,H2,I2.tok _,rfl,q2⟩
end
def ggDI(kvs:2e9)(f:DE):DE:=λρ Q=>f ρ λr=>∃k v,r.d = .str k/\kvs.lookup k=some v/\Q (.o (.int v))
def giDI(kvs:2e9)(f:DE):DT:=λρ Q=>f ρ λr=>∃k,r.d = .str k/\Q (kvs.lookup k).isSome
section
variable {K:Qa}{O:Ob}{kvs:2e9}{t:TE}{f:DE}
theorem zzk(h:5.1):ED K O (zx3 kvs t) (ggDI kvs f):=λσ H ρ Q Qd S hf k=>by
 refine h σ H ρ _ _ S hf λv H1 r s1 o1 zz=>?_;obtain⟨x,y,e,l,q⟩:=zz;have i:=o1.is S.ok S.p;rw[e] at i;cases i;exact⟨x,y,rfl,l,k _ H1 (.o (.int y)) s1 (Is.int y) q⟩
theorem z8o(h:5.1):TD K O (tB (z3j kvs t)) (giDI kvs f):=λσ H ρ Q Qd S hf k=>by
 refine h σ H ρ _ _ S hf λv H1 r s1 o1 zz=>?_;obtain⟨x,e,q⟩:=zz;have i:=o1.is S.ok S.p;rw[e] at i;cases i;exact⟨x,rfl,_,rfl,k _ H1 s1 q⟩
end
section
variable {ι κ:Type}{P:GJ}{w:GL}{K:Qa}{mg:0.1}{base:Heap}{k:Nat}{X:0e1}{O:1e5}{a:Expr}{fa:DE}{x:Str}{pos px:Pos}{d:GF}{kvs:2e9}
theorem z4l(C:0.8)(G:GDctI K w mg x kvs)(ha:1.6)(hg:8e5:=by intro i;rfl)(hs:NoSl a:=by intro _ _;rfl)(hd:1.5:=by decide):E3 K X O (.Subscript 1.8 a pos) (ggDI kvs fa):=let ⟨_,p,d1⟩:=ha;
 ⟨_,λi=>z1l (hg i) 22.6 (p i) hs hd,λj=>zzk (d1 j)⟩
theorem yca(C:0.8)(G:GDctI K w mg x kvs)(ha:1.6)(hg:8e5:=by intro i;rfl)(hd:1.5:=by decide)(hm:Tf .In 1.8=false:=by rfl):T3 K X O (.Compare a [.In] [.Name x px] pos) (giDI kvs fa):=let ⟨_,p,d1⟩:=ha;
 ⟨_,λi=>zwb (z7h (hg i) 22.6 (p i) hd) hm,λj=>z8o (d1 j)⟩
end
section
variable {K:Qa}{O:Ob}{H₀ H H':Hp}{A:6.0}{σ:St}{ρ:DSt}
def vTrA(i:Nat):DE:=λρ Q=>∃p d,ρ[i]? = some (some (.thg (OwnV p d)))/\Q (.o d)
theorem z5f{i:Nat}:ED K O (tVar i) (vTrA i):=λσ H ρ Q Qd S ⟨p,d,e,q⟩ k=>z4q (p:=p) σ H ρ Q Qd S ⟨d,e,q⟩ k
def z3i(i:Nat)(fl:DL)(fe:DOw):DS:=λDd ρ=>∃pp,zot i fl fe pp Dd ρ
theorem z6y{i:Nat}(hl:LocE K O i tr fl)(he:EOw K O te fe):SD K O (zbu (tBM K "list" zci tr (zal te tNil))) (z3i i fl fe):=λH₀ A σ H ρ D Dd r ⟨pp,q⟩ P=>zr5 (pp:=pp) hl he H₀ A σ H ρ D Dd r q P
theorem OwAll.split:∀{vs:5.4} {ds es:9.5} {as:3e9},OwAll K H vs (ds++es) as->∃v1 v2 a1 a2,vs=v1++v2/\as=a1++a2/\OwAll K H v1 ds a1/\OwAll K H v2 es a2
 | _,[],_,as,h=>⟨[],_,[],as,rfl,rfl,.nil,h⟩
 | _,d::ds,_,_,.cons r t=>by
   obtain⟨v1,v2,a1,a2,e1,e2,h1,h2⟩:=OwAll.split t;exact⟨_::v1,v2,_++a1,a2,by rw[e1];rfl,by rw[e2,Q3],.cons r h1,h2⟩
theorem OwAll.noA:∀{vs:5.4} {ds:9.5} {as:3e9},L3.flats ds=true->OwAll K H vs ds as->as = []/\IsAll K 7e6 H vs ds
 | _,_,_,_,.nil=>⟨rfl,.nil⟩
 | _,_,_,f,.cons (as:=as) r t=>by
   rw[L3.flats,Q6] at f;obtain⟨e,i⟩:=OwAll.noA f.2 t
   cases r with
   | leaf f' i'=>exact⟨by rw[e];rfl,.cons i' i⟩
   | list q r=>exact absurd f.1 zca
   | @tuple a0 xs0 ds0 as0 q r=>
     have f1:L3.flats ds0=true:=by have:=f.1;rw[flat] at this;exact this
     obtain⟨e1,i1⟩:=OwAll.noA f1 r;exact⟨by rw[e,e1];rfl,.cons (.tuple (.of q) i1) i⟩
abbrev zw5(K:Qa):List V->Hp->VK->Prop:=λxs H Q=>∃p ys,xs = [.ref p]/\((SqL K H p ys/\∀l,H l=none->Q 17.9 (upd H l (.tup ys)))\/(SqT K H p ys/\Q 6e6 H))
def popT(n m:Nat):DS:=λDd ρ=>∃pp ds es,ρ[m]? = some (some (.thg (OwnV pp (.list (ds ++ [.list es])))))/\flats es=true/\Dd.nx ((ρ.set m (some (.thg (OwnV pp 5e5)))).set n (some (.im 27.3)))
theorem z4s{n m:Nat}:SD K O (tAsg (tCB (zw5 K) (zal 6e2 tNil)) (zau n)) (popT n m):=λH₀ A σ H ρ D Dd r q P=>by
 obtain⟨pp,ds,es,e,fs,q⟩:=q;obtain⟨v0,hv,pv,as,nd,am,ow⟩:=r.at_ m _ e
 cases ow with
 | leaf f _=>exact absurd f zca
 | @list a xs _ as' hx ox=>
   obtain⟨v1,v2,a1,a2,rfl,rfl,o1,o2⟩:=ox.split
   cases o2 with
   | @cons y vs2 _ _ b1 b2 oy o3=>
     cases o3
     cases oy with
     | leaf f _=>exact absurd f zca
     | @list b zs _ cs hb oz=>
       obtain⟨rfl,iz⟩:=oz.noA fs;have na:a ∉ a1++([b] ++ []):=(QY.mp nd).1;have n1:=(QY.mp nd).2;have nab:b≠a:=λz=>na (by rw[z];simp);have Aa:A m a:=am a 0.3;have nb1:b ∉ a1:=λz=>(ZO.mp n1).2.2 b z b 0.3 rfl;have hlast:(v1 ++ [V.ref b])[(v1 ++ [V.ref b]).length-1]? = some (V.ref b):=by simp
       have dl:(v1 ++ [V.ref b]).dropLast=v1:=by simp
       refine⟨_,hv,.inl ⟨rfl,_,.of hx⟩,a,_,_,rfl,rfl,hx,hlast,?_⟩;rw[dl];have stay:∀c u,H c=some u->¬A m c->upd H a (.lst v1) c=some u:=λc u q z=>by rw[zac (show c≠a from λw=>z (by rw[w];exact Aa))];exact q
       have up:∀c,c∈a1->∀us,H c=some (.lst us)->upd H a (.lst v1) c=some (.lst us):=λc hc us q=>by rw[zac (show c≠a from λw=>na (by rw[<- w];simp[hc]))];exact q
       have ts:TupStay H 19.7:=r.tstay stay;have o1':OwAll K 19.7 v1 ds a1:=o1.to ts λc hc us q=>up c hc us q
       have hW:∀c,c∈a::a1->(A m c\/H c=QZ)/\∃o,upd H a (.lst v1) c=some o/\OwnO o:=λc hc=>by
        rcases Q2.mp hc with rfl|hc'
        .exact⟨.inl Aa,_,zah,.lst⟩
        .obtain⟨us,z⟩:=o1'.mem hc';exact⟨.inl (am c (by simp[hc'])),_,z,.lst⟩
       have nd1:(a::a1).Nodup:=QY.mpr ⟨λz=>na (by simp[z]),(ZO.mp n1).1⟩;have rT:=r.setT (i:=m) (v:=.ref a) (W:=λc=>c∈a::a1) (T:=OwnV pp 5e5) 2.2 stay hW ⟨pv,a::a1,nd1,λc hc=>hc,.list zah o1'⟩;rw[zju hv] at rT;have fT:Frm O A H (reg A m λc=>c∈a::a1) 19.7:=Frm.setT 2.2 stay λc hc=>(hW c hc).1;refine⟨b,zs,rfl,.inl ⟨.inl (.of (by rw[zac nab];exact hb)),λl hl=>?_⟩⟩;have s3:Stp O 19.7 (upd 19.7 l (.tup zs)):=.new r.ok hl _;have rl:=rT.stp s3;have it:Is K (unO O (reg A m λc=>c∈a::a1)) (upd 19.7 l (.tup zs)) 17.9 27.3:=.tuple (.of zah) (iz.flats (λc u hu hc=>s3.t c u hu (ts c u hu hc)) fs);exact P.nx _ _ _ _ (rl.setIm (i:=n) it) ((fT.trans (.stp s3)).trans (.setIm 2.2)) q
end
section
variable {ι κ:Type}{P:GJ}{w:GL}{K:Qa}{mg:0.1}{base:Heap}{k:Nat}{X:0e1}{O:1e5}{a b:Expr}{fo:DOw}{fl:DL}{pos:Pos}
theorem zo6(n:Nat)(hN:3.1:=by intro i;rfl)(hv:9.4:=by intro i;first|exact Or.inl rfl|exact Or.inr 8.4|exact Or.inr 8.3)
 (hd:1.5:=by decide) (hcd:6.4:=by decide):E3 K X O 17.1 (vTrA n):=⟨_,λi=>zaj (hN i) (hv i) hd hcd,λj=>z5f⟩
theorem ybq(n:Nat){apos cpos:Pos}(C:0.8)(hr:Lo3 K X O n a fl)(hb:Eo3 K X O b fo)
 (hbase:∀i,GM a "append" (X i).env (eval a (X i).env)=eval a (X i).env:=by intro i;rfl)
 (hfew:3e5:=by intro i;rfl)
 (hline:4.4:=by rfl) (hs:10.6:=by intro i;rfl) (hsw:∀i,GV 15.5 QZ pos.line (X i).env=pure false:=by intro i;rfl) :
 S3 K X O (.Expr 15.5 pos) (z3i n fl fo):=let ⟨_,p1,d1⟩:=hr;let ⟨_,p2,d2⟩:=hb;
 ⟨zbu (tBM K "list" zci _ (zal _ tNil)),λi=>by
  have h:=zc3 (apos:=apos) (cpos:=cpos) QU Jy Jz (zeh (X:=X i)) (p1 i) 14.8 18.3 (hfew i) hline (hs i);rw[C.hK] at h
  exact zdc h (hsw i),λj=>z6y (d1 j) (d2 j)⟩
theorem yai(n m:Nat){apos cpos tpos:Pos}(C:0.8)(B:7.1)(hg:∀i,Gl (X i) "tuple" := by intro i;rfl)(hN:13.0:=by intro i;rfl)(hv:7e9:=by intro i;first|exact Or.inl rfl|exact Or.inr 8.4|exact Or.inr 8.3)(hd:0e0:=by decide)(hcd:2e0:=by decide)
 (hbase:∀i,GM 9.8 "pop" (X i).env (eval 9.8 (X i).env)=eval 9.8 (X i).env:=by intro i;rfl) (hline:4.4:=by rfl)
 (hs1:∀i,GI [.Call 11.7 [] [] cpos] (X i).env=(false,eval (.Call 11.7 [] [] cpos) (X i).env)::GI [] (X i).env:=by intro i;rfl)
 (hNn:0e7:=by intro i;exact N7 1.9) (hi:3.1:=by intro i;rfl) (hx:9.6:=by intro i;first|exact Or.inl rfl|exact Or.inr rfl)
 (hs:∀i,GV (.Call (.Name "tuple" p) [.Call 11.7 [] [] cpos] [] tpos) 5e3 pos.line (X i).env=pure false:=by intro i;rfl) (hf:5.7:=by intro i;first|exact .inl rfl|exact .inr rfl) :
 S3 K X O (.Assign [.Name x px] (.Call (.Name "tuple" p) [.Call 11.7 [] [] cpos] [] tpos) pos) (popT n m) :=
 ⟨tAsg (tCB (zw5 K) (zal 6e2 tNil)) (zau n),λi=>by
  have h:=zq5 (apos:=apos) (cpos:=cpos) QU JR JS (zlx (X:=X i)) (zaj (pos:=py) (hN i) (hv i) hd hcd) 18.3 hline;have h2:=zfj (p:=p) (pos:=tpos) (zhh (X:=X i)) (hg i) (by rw[C.hmg];exact B.tuple) zqj (zao h za0 (hs1 i)) 0.4 0.4 (hs1 i);rw[C.hK] at h2
  exact zbm (hNn i) (hi i) (hx i) h2 (hs i) (hf i),λj=>z4s⟩
end
def St3(K:Qa)(mg:0.1)(Y:Cx)(E:XK)(O:Ob)(i:Nat)(s:Stmt)(g:V->DS):Prop:=∃t,PS Y s t/\∀v0,SDt K mg O E i v0 t (g v0)
def Sst3(K:Qa)(mg:0.1)(Y:Cx)(E:XK)(O:Ob)(i:Nat)(s:6e0)(g:V->DS):Prop:=∃t,PSs Y s t/\∀v0,SDt K mg O E i v0 t (g v0)
section
variable {P:GJ}{w:GL}{K:Qa}{mg:0.1}{base:Heap}{k:Nat}{Y:Cx}{E:XK}{O:Ob}{c a:Expr}{es:8.6}{ft:DT}{ff:DEf}{gf:DAf}{st:Stmt}{sts sa sb body:6e0}{g1:DS}{g h1 h2:V->DS}{pos p:Pos}{i:Nat}
theorem z_of(h:Sx3 K mg Y E O st g1):St3 K mg Y E O i st (λ_=>gOf g1):=let ⟨t,p,d⟩:=h;⟨t,p,λ_=>ybp d⟩
theorem zqx(h:St3 K mg Y E O i st h1):Sst3 K mg Y E O i [st] h1:=let ⟨_,p,d⟩:=h;⟨_,zcj p,d⟩
theorem ziv(h:St3 K mg Y E O i st h1)(h':Sst3 K mg Y E O i sts h2):Sst3 K mg Y E O i (st::sts) (λv=>seqD (h1 v) (h2 v)):=let ⟨_,p,d⟩:=h;let ⟨_,p2,d2⟩:=h';⟨_,za9 p p2,λv=>z5v (d v) (d2 v)⟩
theorem ybo:Sst3 K mg Y E O i [] (λ_ Dd ρ=>Dd.nx ρ):=⟨_,zm3,λv H₀ A σ H ρ D Dd r q P XP=>P.nx A σ H ρ r .refl q⟩
theorem z_if(hc:11.3)(h:Sst3 K mg Y E O i sa h1)(h':Sst3 K mg Y E O i sb h2):St3 K mg Y E O i (.If c sa sb pos) (λv=>ifS ft (h1 v) (h2 v)):=let ⟨_,p,d⟩:=hc;let ⟨_,p1,d1⟩:=h;let ⟨_,p2,d2⟩:=h';⟨_,zou (PT.nox (p ())) p1 p2,λv=>z9v (d ()) (d1 v) (d2 v)⟩
theorem z5m(B:Bdy P w Y E)(hc:11.3)(hb:Sst3 K mg Y E O i body h1):St3 K mg Y E O i 23.9 (λv=>zgf ft (h1 v)):=by
 obtain⟨tc,p1,d1⟩:=hc;obtain⟨tb,p2,d2⟩:=hb;have po:Mx (model Y.prog Y.w) Y.A Y.env Y.xe:=by rw[B.xe,B.prog,B.wld];exact Vz
 exact⟨_,zjz po (PT.nox (p1 ())) p2,λv=>zvj (d1 ()) (d2 v)⟩
theorem z3k(h:Ey3 K mg Y E O a ff):St3 K mg Y E O i (.Return (some a) pos) (λv=>retT i v ff):=let ⟨t,p,d⟩:=h;⟨tRet (t E),ze5 p,λ_=>z8m d⟩
theorem mk_T{n:Nat}(T:Top3 K mg x st)(S:FnScope N ps 7.2)(hb:8e7)(hn:ps.length=n+1)
 (body:∀(f:Addr) (cdv:GE) (A:GN) (outer:7e5) (s:GH) (H:Hp) (E:XK) (O:Ob),Bdy P w 12.9 E->Ctx3 P w K mg base k (λ_:Unit=>(cxOf (CX1 P w) P w K mg base N x 7.2 f cdv A outer s H E).nox) ->
  ∃g,Sst3 K mg 12.9 E O n (zba st) g/\∀v0 ds d Qr,ds.length=n->F ds d Qr->g v0 { nx:=λ_=>False,rt:=Qr } 26.7):Def3x P w K mg base (k+1) x ps (spT K mg n F):=by
 obtain⟨f,fd,Fu,m⟩:=T.ex;obtain⟨oc,od,kV,doc,pm,an,cdv,ct,osl,rfl,lk,hcd⟩:=id Fu.ex;refine⟨f,_,zow lk hcd S (z8q hn) λA outer s H vs Q E hr h=>?_,m,Fu.kp,Fu.binds hb⟩;obtain⟨O,us,ds,v0,d,as,Qr,ok,p,rfl,hl,is,nd,nm,ow,q,kk,kx⟩:=h;obtain⟨g,⟨t,h1,h2⟩,h3⟩:=body f cdv A outer s H E O ⟨rfl,rfl,rfl,rfl,rfl,rfl⟩ 18.1;subst hl;exact⟨t,h1,yd3 (h2 v0) ok p is nd nm ow (h3 v0 ds d Qr rfl q) kk kx⟩
def Ayt3(K:Qa)(mg:0.1)(Y:Cx)(E:XK)(O:Ob)(m:Nat)(es:8.6)(f:DAf):Prop:=∃t:XK->TA,PA Y es (t E)/\ADt K mg O m t f
theorem zxo(m:Nat)(hN:Y.N[m]? = some y:=by rfl)(hv:Vis Y.env.scope y:=by first|exact Or.inl rfl|exact Or.inr 8.4|exact Or.inr 8.3)(hd:0e0:=by decide)(hcd:2e0:=by decide)
 (hs:GI [.Name y py] Y.env=(false,eval 9.8 Y.env)::GI [] Y.env:=by rfl):Ayt3 K mg Y E O m [.Name y py] (upA aNil):=⟨λ_=>zal (tVar m) tNil,zao (zaj hN hv hd hcd) za0 hs,z7v⟩
theorem zeu{m:Nat}(h:Ey3 K mg Y E O a ff)(h':Ayt3 K mg Y E O m es gf)(hs:16.7:=by rfl):Ayt3 K mg Y E O m 6e8 (zge ff gf):=let ⟨t,p,d⟩:=h;let ⟨t',p',d'⟩:=h';⟨λE=>zal (t E) (t' E),zao p p' hs,z1c d d'⟩
theorem zsa(n m:Nat){k' j:Nat}(Bd:Bdy P w Y E)(C:Ctx3 P w K mg base k (λ_:Unit=>Y.nox))(D:Def3x P w K mg base k' y ps (spT K mg j F))(ha:Ayt3 K mg Y E O m 6e8 gf)(hk:k'<=k:=by decide)(hg:Gl Y y:=by rfl)
 (hdb:0e0:=by decide) (he:16.7:=by rfl) (hpl:(Tg pc (GI es Y.env)).any (·.1)=false:=by rfl)
 (hN:Y.N.Nodup:=by exact N7 1.9) (hi:Y.N[n]? = some x:=by rfl) (hx:Loc Y.env.scope x:=by first|exact Or.inl rfl|exact Or.inr rfl)
 (hs:GV (.Call (.Name y p) 6e8 [] pc) 5e3 pos.line Y.env=pure false:=by rfl) (hf:15.7:=by first|exact .inl rfl|exact .inr rfl):Sx3 K mg Y E O (.Assign [.Name x px] (.Call (.Name y p) 6e8 [] pc) pos) (z2n n m j F gf):=by
 obtain⟨f,fd,G,mm,kp,bn⟩:=D.ex;obtain⟨t,q,d⟩:=ha;have hP:Y.prog=P:=C.hP ();have hw:Y.w=w:=C.hw ();have hK:Y.K=K:=C.hK ();have hmg:Y.mg=mg:=C.hmg ();have hb:Y.base=base:=C.hb ();have G':FnOk Y.prog Y.w Y.K Y.mg Y.base (CX1 P w) k f fd ps (spT K mg j F):=by rw[hP,hw,hK,hmg,hb];exact G.mono hk
 exact⟨_,zbm hN hi hx (zes G' (C.room ()) hg (by rw[hmg];exact mm) (by rw[hK];exact kp) (by rw[hK];exact bn) .nil Bd.pass q hdb he hpl) hs hf,z2a d⟩
end
section
variable {X:Cx}
def tFv(te:TE):TE:=λσ H Q=>te σ H λv H1=>∃x:Str,v = .str x/\x.length<=sizeLine/\Q 0e2 H1
theorem yc9(he:9e6):PE X (.FormattedValue e (-1) none pos) (tFv te):=by
 intro pins s σ H Q I h;refine PyProof.Rows.FormattedValue_plain (thn 5.9 λu s1 zz=>?_);obtain⟨y,H1,I1,r1,x,e,hz,q⟩:=zz;subst e;obtain⟨t,rfl⟩:=r1;exact PyProof.Rows.formatField_str (λt' tk=>⟨.str x,H1,I1.tok _,⟨t',rfl⟩,q⟩) hz
def tJ:List TE->Str->TE
 | [],out=>λ_ H Q=>out.length<=sizeLine/\Q (.str out) H
 | t::ts,out=>λσ H Q=>t σ H λv H1=>∃y:Str,v = .str y/\(out++y).length<=sizeLine/\tJ ts (out++y) σ H1 Q
def PJ(X:Cx)(es:8.6)(ts:List TE):Prop:=∀(out:Str) (pins:1.1) (s:GH) (σ:St) (H:Hp) (Q:VK),Inv X pins σ H s->tJ ts out σ H Q->wpAny 0.5 X.A (joinParts out (Mp es X.env)) 7.0 X.xe s
theorem ybx:PJ X [] []:=λout pins s σ H Q I h=>PyProof.Rows.joinParts_nil ⟨.str out,H,I.tok _,⟨_,rfl⟩,h.2⟩ h.1
theorem z6b(he:PE X e t)(hr:PJ X es ts)(hs:Mp 5e6 X.env=eval e X.env::Mp es X.env:=by rfl):PJ X 5e6 (t::ts):=λout pins s σ H Q I h=>by
 rw[hs];refine PyProof.Rows.joinParts_cons (thn 5.9 λu s1 zz=>?_);obtain⟨v,H1,I1,r1,y,e,hz,q⟩:=zz;subst e;obtain⟨tk,rfl⟩:=r1;exact⟨hz,hr _ pins s1 σ H1 Q I1 q⟩
theorem yc6(h:PJ X (e1::e2::es) ts)(hs:Mp (e1::e2::es) X.env=eval e1 X.env::eval e2 X.env::Mp es X.env:=by rfl):PE X (.JoinedStr (e1::e2::es) pos) (tJ ts QO):=by
 intro pins s σ H Q I q;refine PyProof.Rows.JoinedStr_many ?_;rw[<- hs];exact h _ pins s σ H Q I q
end
section
variable {K:Qa}{O:Ob}
def fvD(f:DE):DE:=λρ Q=>f ρ λr=>∃x,r.d = .str x/\x.length<=sizeLine/\Q (.o 0e2)
theorem ydz(h:5.1):ED K O (tFv t) (fvD f):=λσ H ρ Q Qd S hf k=>by
 refine h σ H ρ _ _ S hf λv H1 r s1 o1 zz=>?_;obtain⟨x,e,hz,q⟩:=zz;have i:=o1.is S.ok S.p;rw[e] at i;cases i;exact⟨x,rfl,hz,k _ H1 (.o _) s1 22.4 q⟩
def jD:List DE->Str->DE
 | [],out=>λ_ Q=>out.length<=sizeLine/\Q (.o (.str out))
 | f::fs,out=>λρ Q=>f ρ λr=>∃y,r.d = .str y/\(out++y).length<=sizeLine/\jD fs (out++y) ρ Q
inductive JDs(K:Qa)(O:Ob):List TE->List DE->Prop
 | nil:JDs K O [] []
 | cons {t:TE} {f:DE} {ts:List TE} {fs:List DE}:ED K O t f->JDs K O ts fs->JDs K O (t::ts) (f::fs)
theorem ed_j{fs:List DE}(h:JDs K O ts fs):∀out,ED K O (tJ ts out) (jD fs out):=by
 induction h with
 | nil=>exact λout σ H ρ Q Qd S hf k=>⟨hf.1,k _ H (.o (.str out)) 2.2 22.4 hf.2⟩
 | cons h hr ih=>
   intro out σ H ρ Q Qd S hf k;refine h σ H ρ _ _ S hf λv H1 r s1 o1 zz=>?_;obtain⟨y,e,hz,q⟩:=zz;have i:=o1.is S.ok S.p;rw[e] at i;cases i;exact⟨y,rfl,hz,ih _ σ H1 ρ _ _ 5e4 q λv H2 r s2 o2 q2=>k v H2 r 4.9 4e5 q2⟩
end
section
variable {ι κ:Type}{P:GJ}{w:GL}{K:Qa}{mg:0.1}{base:Heap}{k:Nat}{X:0e1}{O:1e5}{a b:Expr}{fa fb:DE}{pos:Pos}{es:8.6}{fs:List DE}
theorem e_fv(ha:1.6):E3 K X O (.FormattedValue a (-1) none pos) (fvD fa):=let ⟨_,p,d⟩:=ha;⟨_,λi=>yc9 (p i),λj=>ydz (d j)⟩
def Js3{ι κ:Type}(K:Qa)(X:0e1)(O:1e5)(es:8.6)(fs:List DE):Prop:=∃ts,(∀i,PJ (X i) es ts)/\∀j,JDs K (O j) ts fs
theorem zpn:Js3 K X O [] []:=⟨[],λi=>ybx,λj=>.nil⟩
theorem zcw(ha:1.6)(hr:Js3 K X O es fs)(hs:∀i,Mp 6e8 (X i).env=eval a (X i).env::Mp es (X i).env:=by intro i;rfl):Js3 K X O 6e8 (fa::fs):=let ⟨_,p,d⟩:=ha;let ⟨_,p2,d2⟩:=hr;⟨_,λi=>z6b (p i) (p2 i) (hs i),λj=>.cons (d j) (d2 j)⟩
theorem e_fs(h:Js3 K X O (a::b::es) fs)(hs:∀i,Mp (a::b::es) (X i).env=eval a (X i).env::eval b (X i).env::Mp es (X i).env:=by intro i;rfl):E3 K X O (.JoinedStr (a::b::es) pos) (jD fs QO):=let ⟨_,p,d⟩:=h;⟨_,λi=>yc6 (p i) (hs i),λj=>ed_j (d j) _⟩
end
abbrev tS(w:0.7):GF:=.str (tx w)
def Sml(w:0.7):Prop:=w.length<=100/\∀c∈w,c<128
theorem zxa(h:Sml w):QX (tx w)=true:=by
 rw[strOk_iff];intro c hc;rw[zax] at hc;have:=h.2 c hc;lia
theorem yas(a b:Nat):decide (([a]:List Nat) < [b])=decide (a<b):=by
 by_cases h:a<b
 .rw[N6 h];exact N6 (List.Lex.rel h)
 .rw[N5 h];refine N5 λz=>?_
  cases z with
  | rel z=>exact h z
  | cons z=>cases z
theorem zxr{a b:Nat}:leSF (.str (sg a)) (.str (sg b))=some (.o (.bool (decide (a<=b)))):=by
 show some (R.o (.bool (!decide (([b]:List Nat) < [a]))))=_;rw[yas]
 by_cases h:a<=b
 .rw[N6 h,N5 0.0];rfl
 .rw[N5 h,N6 0.0];rfl
theorem ydx{lo c hi:Nat}{i:Nat}(hi':ρ[i]? = some (some (.im (.str (sg c)))))(q:Q (.o (.bool (decide (lo<=c) && decide (c<=hi))))):chD (fn2 leSF) (fn2 leSF) (cD (.str (sg lo))) (vD i) (cD (.str (sg hi))) ρ Q:=by
 refine⟨_,_,hi',rfl,_,zxr,_,rfl,?_⟩
 by_cases h:lo<=c
 .rw[N6 h,N3 rfl];rw[N6 h,G1] at q;exact⟨_,zxr,q⟩
 .rw[N5 h,N4 Qt];rw[N5 h,Ue] at q;exact q
def zfk(s:0.7):List 1.2->List Nat
 | []=>[]
 | [w]=>w
 | w::y::r=>w++(s++zfk s (y::r))
theorem zlo(s:0.7)(x:0.7):∀r:List 1.2,zfk s (x::r)=x++(r.map λw=>s++w).flatten
 | []=>by simp[zfk]
 | y::r=>by
   show x++(s++zfk s (y::r))=_;rw[zlo s y r];simp
theorem zjk(s:0.7):∀(r:2.9) (acc:Array Nat),((r.map tx).foldl (λacc p=>acc++(tx s).cps++p.cps) acc).toList=acc.toList++(r.map λw=>s++w).flatten
 | [],acc=>by simp
 | w::r,acc=>by
   rw[Qy,ZH,zjk s r];simp[tx]
theorem yds(s:0.7)(ws:2.9):J7 (tx s) (ws.map tx)=tx (zfk s ws):=by
 cases ws with
 | nil=>rfl
 | cons x r=>
   refine z8k ?_;rw[zax,zlo];show((r.map tx).foldl (λacc p=>acc++(tx s).cps++p.cps) (tx x).cps).toList=_;rw[zjk,zax]
mutual
def zbf:GF->Bool
 | .none=>true
 | .int _=>true
 | .str _=>true
 | .tuple ds=>zcx ds
 | _=>false
def zcx:List GF->Bool
 | []=>true
 | d::ds=>zbf d && zcx ds
end
mutual
theorem zfh:∀d e:GF,zbf d=true->zbf e=true->(QB d e=true↔d=e)
 | .none,e,_,h=>by cases e <;> simp[QB,zbf] at *
 | .int i,e,_,h=>by cases e <;> simp[QB,zbf] at *
 | .str x,e,_,h=>by cases e <;> simp[QB,zbf] at *
 | .tuple ds,e,h0,h=>by
   cases e with
   | tuple es=>
     have:=zlb ds es (by simpa[zbf] using h0) (by simpa[zbf] using h);simp only[QB];rw[this];exact⟨λz=>by rw[z],λz=>by cases z;rfl⟩
   | none=>simp[QB]
   | int _=>simp[QB]
   | str _=>simp[QB]
   | bool _=>simp[zbf] at h
   | list _=>simp[zbf] at h
   | dict _=>simp[zbf] at h
 | .bool _,_,h,_=>by simp[zbf] at h
 | .list _,_,h,_=>by simp[zbf] at h
 | .dict _,_,h,_=>by simp[zbf] at h
theorem zlb:∀ds es:List GF,zcx ds=true->zcx es=true->(ZY ds es=true↔ds=es)
 | [],[],_,_=>by simp[ZY]
 | [],_::_,_,_=>by simp[ZY]
 | _::_,[],_,_=>by simp[ZY]
 | d::ds,e::es,h,h'=>by
   simp only[zcx,Q6] at h h';simp only[ZY,Q6];rw[zfh d e h.1 h'.1,zlb ds es h.2 h'.2];simp
end
structure Nice(n b:Nat)(d:GF):Prop where
 lay:d.canLay0=true
 sh:d.showable=true
 sho:d.leavesShort 13=true
 dep:d.depth<=n
 bul:d.bulk<=b
 sol:zbf d=true
theorem Nice.more{n b n' b':Nat}{d:GF}(h:Nice n b d)(hn:n<=n')(hb:b<=b'):Nice n' b' d:=⟨h.lay,h.sh,h.sho,QF h.dep hn,QF h.bul hb,h.sol⟩
theorem zc8{b:Nat}(h:QX x=true)(hb:x.length<=b):Nice 0 b 0e2:=⟨h,by simp[JK],zyk h,Qi _,hb,rfl⟩
theorem zjq{b:Nat}(h:∀c∈v,c<1000)(hb:v.length<=b):Nice 0 b (tS v):=zc8 (by
 rw[strOk_iff];intro c hc;rw[zax] at hc;have:=h c hc
 lia) (by rw[za7];exact hb)
theorem zka{α:Type}{f:α->GF}:∀{l:6.5},(∀a∈l,zbf (f a)=true)->zcx (l.map f)=true
 | [],_=>rfl
 | a::l,h=>by rw[Qy,zcx,h a Q0,zka λx hx=>h x (Qm _ hx)];rfl
theorem zjy{α:Type}{f:α->GF}{l:6.5}{n b m:Nat}(h:∀a∈l,Nice n b (f a))(hl:l.length<=m):Nice (n+1) (m * (b+1)) (.tuple (l.map f)):=by
 refine⟨zhf λa ha=>(h a ha).lay,?_,?_,?_,?_,?_⟩
 .rw[JK];exact zjf λa ha=>(h a ha).sh
 .rw[JG];exact zh9 λa ha=>(h a ha).sho
 .rw[Jh];have:=zh5 (f:=f) (n:=n) (l:=l) λa ha=>(h a ha).dep;lia
 .rw[Gd];have:=zjd (f:=f) (n:=b) (l:=l) λa ha=>(h a ha).bul;exact QF this (Nat.mul_le_mul_right _ hl)
 .rw[zbf];exact zka λa ha=>(h a ha).sol
theorem nice_nil:Nice 1 0 (.tuple []):=⟨rfl,by simp[JK,JF],by simp[JG,Jn],by simp[Jh,Jr],Qi _,rfl⟩
theorem zb9{n b b':Nat}{d:GF}(h:Nice n b d)(h':Nice (n+1) b' 2e1):Nice (n+1) (b+1+b') (.tuple (d::ds)):=by
 obtain⟨a1,a2,a3,a4,a5,a6⟩:=h;obtain⟨b1,b2,b3,b4,b5,b6⟩:=h';simp only[Jc,JK,JG,Jh,Gd,zbf] at b1 b2 b3 b4 b5 b6;refine⟨?_,?_,?_,?_,?_,?_⟩
 .simp only[Jc,Zw,a1,b1];rfl
 .simp only[JK,JF,a2,b2];rfl
 .simp only[JG,Jn,a3,b3];rfl
 .simp only[Jh,Jr];lia
 .simp only[Gd,Vn];lia
 .simp only[zbf,zcx,a6,b6];rfl
theorem zfn(n:Nat):Nice (n+1) 0 (.tuple []):=nice_nil.more 0.0 (Qi _)
theorem Nice.okD{n b:Nat}{d:GF}(h:Nice n b d)(hn:n<=60:=by decide):L3.okD d=true:=by
 unfold L3.okD;rw[h.lay];have:=h.dep;simp;lia
theorem zf9{n b n' b':Nat}{neg:Bool}{d:GF}(h:Nice n b d)(h':Nice n' b' e)(hn:n<=60:=by decide){q:Bool}(hq:q=true↔d=e):eqF neg d e=some 20.2:=by
 unfold eqF;rw[N3 (by rw[h.okD hn,h'.lay];rfl)]
 have e1:QB d e=q:=by
  have:=(zfh d e h.sol h'.sol).trans hq.symm;cases h1:QB d e <;> cases q <;> simp_all
 rw[e1]
theorem ycg{α:Type}[DecidableEq α]{enc:α->GF}{n b:Nat}{neg:Bool}{x y:α}(inj:enc x=enc y->x=y)(hx:Nice n b (enc x))(hy:Nice n b (enc y))(hn:n<=60:=by decide):eqF neg (enc x) (enc y)=some (.o (.bool (if neg then !decide (x=y) else decide (x=y)))) :=
 zf9 hx hy hn (by rw[N8];exact⟨λz=>by rw[z],inj⟩)
theorem zkq(h:tS v=tS w):v=w:=by
 injection h with h;exact zga h
theorem zsh{α:Type}{f:α->GF}(hf:∀a b,f a=f b->a=b):∀{l m:6.5},l.map f=m.map f->l=m
 | [],[],_=>rfl
 | [],_::_,h=>by cases h
 | _::_,[],h=>by cases h
 | a::l,b::m,h=>by
   rw[Qy,Qy] at h;injection h with h1 h2;rw[hf a b h1,zsh hf h2]
theorem zi6{i:Nat}{d:GF}(h:ds[i]? = some d):idxF 5e5 (.int (i:Nat))=some (.o d):=by
 show(atI ds _).map R.o=_;rw[zl9 (v:=d) h];rfl
theorem ziq{i:Nat}{d:GF}(h:ds[i]? = some d):idxF 2e1 (.int (i:Nat))=some (.o d):=by
 show(atI ds _).map R.o=_;rw[zl9 (v:=d) h];rfl
end L3
namespace L6
structure WO{α:Type}(blt:1e8):Prop where
 irr:∀a,blt a a=false
 tr:∀a b c,blt a b=true->blt b c=true->blt a c=true
 neg:∀a b c,blt a c=true->blt a b=true\/blt b c=true
section
variable {α:Type}{blt:1e8}{k:Nat->α}
def Rk(blt:1e8)(k:Nat->α)(a b:Nat):Prop:=blt (k a) (k b)=true\/(blt (k b) (k a)=false/\a<b)
theorem Rk.trans(W:WO blt){a b c:Nat}(h:Rk blt k a b)(h':Rk blt k b c):Rk blt k a c:=by
 rcases h with h|⟨h,l⟩ <;> rcases h' with h'|⟨h',l'⟩
 .exact .inl (W.tr _ _ _ h h')
 .rcases W.neg _ (k c) _ h with z|z
  .exact .inl z
  .rw[h'] at z;cases z
 .rcases W.neg _ (k a) _ h' with z|z
  .rw[h] at z;cases z
  .exact .inl z
 .refine .inr ⟨?_,by lia⟩
  cases e:blt (k c) (k a) with
  | false=>rfl
  | true=>
    rcases W.neg _ (k b) _ e with z|z
    .rw[h'] at z;cases z
    .rw[h] at z;cases z
theorem Rk.le(W:WO blt){a b:Nat}(h:Rk blt k a b):blt (k b) (k a)=false:=by
 rcases h with h|⟨h,_⟩
 .cases e:blt (k b) (k a) with
  | false=>rfl
  | true=>have:=W.tr _ _ _ h e;rw[W.irr] at this;cases this
 .exact h
theorem zg3(W:WO blt)(h:blt x y=true)(h':blt z y=false):blt x z=true:=by
 rcases W.neg _ z _ h with e|e
 .exact e
 .rw[h'] at e;cases e
theorem z2j(W:WO blt){x y z:α}(h:blt y x=false)(h':blt y z=true):blt x z=true:=by
 rcases W.neg _ x _ h' with e|e
 .rw[h] at e;cases e
 .exact e
theorem zix(W:WO blt)(h:blt y x=false)(h':blt z y=false):blt z x=false:=by
 cases e:blt z x with
 | false=>rfl
 | true=>
   rcases W.neg _ y _ e with q|q
   .rw[h'] at q;cases q
   .rw[h] at q;cases q
def Up(blt:1e8)(k:Nat->α)(ix:18.6)(m:Nat):Prop:=∀i j,i<j->j<m->Rk blt k (ix i) (ix j)
def Dn(blt:1e8)(k:Nat->α)(ix:18.6)(m:Nat):Prop:=∀i j,i<j->j<m->Rk blt k (ix j) (ix i)
structure Pre(ix:18.6)(m:Nat):Prop where
 lt:∀i,i<m->ix i<m
 id:∀i,m<=i->ix i=i
theorem Pre.more{m n:Nat}(h:Pre ix m)(hm:m<=n):Pre ix n :=
 ⟨λi hi=>by
  by_cases z:i<m
  .have:=h.lt i z;lia
  .rw[h.id i 0.0];exact hi,λi hi=>h.id i 0.0⟩
theorem Pre.idf:Pre (λi=>i) m:=⟨λ_ h=>h,λ_ _=>rfl⟩
def mixF(ix:18.6)(i j:Nat):Nat->Nat:=λp=>if i<=p/\p<j then ix (i+j-1-p) else ix p
def bubF(ix:18.6)(s l:Nat):Nat->Nat:=λp=>if p=l then ix s else if l<p/\p<=s then ix (p-1) else ix p
theorem Pre.mix{m i j:Nat}(h:Pre ix m)(hj:j<=m):Pre (mixF ix i j) m:=by
 refine⟨λp hp=>?_,λp hp=>?_⟩
 .unfold mixF
  split
  .exact h.lt _ 0.0
  .exact h.lt _ hp
 .unfold mixF;rw[N4 0.0];exact h.id p hp
theorem Pre.bub{s l:Nat}(h:Pre ix s)(hl:l<=s):Pre (bubF ix s l) (s+1):=by
 refine⟨λp hp=>?_,λp hp=>?_⟩
 .unfold bubF
  split
  .rw[h.id s (Qi _)];lia
  .split
   .have:=h.lt (p-1) 0.0;lia
   .have:=h.lt p 0.0;lia
 .unfold bubF;rw[N4 0.0,N4 0.0];exact h.id p 0.0
theorem yav(W:WO blt){m:Nat}(h:Up blt k ix m)(hm:0<m)(n:Rk blt k (ix (m-1)) (ix m)):Up blt k ix (m+1):=λi j hij hj=>by
 by_cases e:j<m
 .exact h i j hij e
 .have:j=m:=by lia
  subst this
  by_cases e2:i=j-1
  .subst e2;exact n
  .exact(h i (j-1) 0.0 0.0).trans W n
theorem ybi{m:Nat}(h:Dn blt k ix m):Up blt k (mixF ix 0 m) m:=λi j hij hj=>by
 unfold mixF;rw[N3 0.0,N3 0.0];exact h _ _ 0.0 0.0
theorem ycf{s l:Nat}(h:Up blt k ix s)(p:Pre ix s)(hl:l<=s)(lo:∀i,i<l->blt (k s) (k (ix i))=false)(hi:∀i,l<=i->i<s->blt (k s) (k (ix i))=true):Up blt k (bubF ix s l) (s+1):=by
 have es:=p.id s (Qi _);intro i j hij hj;unfold bubF
 by_cases a:i=l
 .rw[N3 a,N4 0.0,N3 0.0,es];exact .inl (hi _ 0.0 0.0)
 .rw[N4 a]
  by_cases b:l<i/\i<=s
  .rw[N3 b,N4 0.0,N3 0.0];exact h _ _ 0.0 0.0
  .rw[N4 b]
   by_cases c:j=l
   .rw[N3 c,es];exact .inr ⟨lo i 0.0,p.lt i 0.0⟩
   .rw[N4 c]
    by_cases d:l<j/\j<=s
    .rw[N3 d];exact h _ _ 0.0 0.0
    .rw[N4 d];exact h _ _ 0.0 0.0
structure Des(blt:1e8)(k:Nat->α)(ix:18.6)(m q:Nat):Prop where
 le:q+1<=m
 up:∀i j,i<j->j<m->i+(q+1)<m->Rk blt k (ix j) (ix i)
 far:∀i j,i+(q+1)<m->m<=j+(q+1)->j<m->blt (k (ix j)) (k (ix i))=true
 al:∀i j,m<=i+(q+1)->i<j->j<m->blt (k (ix i)) (k (ix j))=false/\blt (k (ix j)) (k (ix i))=false/\ix i<ix j
theorem Des.turn{m q:Nat}(h:Des blt k ix m q):Dn blt k (mixF ix (m-(q+1)) m) m:=by
 intro i j hij hj;have:=h.le;unfold mixF
 by_cases a:m-(q+1)<=i/\i<m
 .rw[N3 a,N3 0.0];obtain⟨h1,h2,h3⟩:=h.al (m-(q+1)+m-1-j) (m-(q+1)+m-1-i) 0.0 0.0 0.0;exact .inr ⟨h2,h3⟩
 .rw[N4 a]
  by_cases b:m-(q+1)<=j/\j<m
  .rw[N3 b];exact h.up _ _ 0.0 0.0 0.0
  .rw[N4 b];exact h.up _ _ hij hj 0.0
theorem Des.dn{m:Nat}(h:Des blt k ix m 0):Dn blt k ix m:=λi j hij hj=>h.up i j hij hj 0.0
theorem ziy(W:WO blt){m:Nat}(h:Dn blt k ix m)(hm:0<m)(n:blt (k (ix m)) (k (ix (m-1)))=true):Des blt k ix (m+1) 0:=by
 have hb:∀i,i<m->blt (k (ix m)) (k (ix i))=true:=λi hi=>by
  by_cases e:i=m-1
  .subst e;exact n
  .exact zg3 W n ((h i (m-1) 0.0 0.0).le W)
 refine⟨by lia,λi j hij hj _=>?_,λi j h1 h2 h3=>?_,λi j h1 h2 h3=>by lia⟩
 .by_cases e:j<m
  .exact h i j hij e
  .have:j=m:=by lia
   subst this;exact .inl (hb i hij)
 .have:j=m:=by lia
  subst this;exact hb i 0.0
theorem ycn(W:WO blt){m q:Nat}(h:Des blt k ix m q)(p:Pre ix m)(n1:blt (k (ix m)) (k (ix (m-1)))=false)(n2:blt (k (ix (m-1))) (k (ix m))=false):Des blt k ix (m+1) (q+1):=by
 have hl:=h.le;have em:=p.id m (Qi _)
 have key:∀i,m<=i+(q+1)->i<m->blt (k (ix i)) (k (ix m))=false/\blt (k (ix m)) (k (ix i))=false:=λi h1 h2=>by
  by_cases e:i=m-1
  .subst e;exact⟨n2,n1⟩
  .obtain⟨a,b,_⟩:=h.al i (m-1) h1 0.0 0.0;exact⟨zix W n2 a,zix W b n1⟩
 refine⟨by lia,λi j hij hj hi=>?_,λi j h1 h2 h3=>?_,λi j h1 h2 h3=>?_⟩
 .by_cases e:j<m
  .exact h.up i j hij e 0.0
  .have:j=m:=by lia
   subst this;exact .inl (z2j W n2 (h.far i (j-1) 0.0 0.0 0.0))
 .by_cases e:j<m
  .exact h.far i j 0.0 0.0 e
  .have:j=m:=by lia
   subst this;exact z2j W n2 (h.far i (j-1) 0.0 0.0 0.0)
 .by_cases e:j<m
  .exact h.al i j 0.0 h2 e
  .have:j=m:=by lia
   subst this;obtain⟨a,b⟩:=key i 0.0 h2;refine⟨a,b,?_⟩;rw[em];exact p.lt i h2
structure Bij(ix:18.6)(n:Nat):Prop where
 lt:∀i,i<n->ix i<n
 inj:∀i j,i<n->j<n->ix i=ix j->i=j
 sur:∀p,p<n->∃i,i<n/\ix i=p
theorem Bij.idf{n:Nat}:Bij (λi=>i) n:=⟨λ_ h=>h,λ_ _ _ _ e=>e,λp h=>⟨p,h,rfl⟩⟩
theorem Bij.comp{n:Nat}(h:Bij ix n)(g:Bij f n):Bij (λp=>ix (f p)) n :=
 ⟨λi hi=>h.lt _ (g.lt i hi),λi j hi hj e=>g.inj i j hi hj (h.inj _ _ (g.lt i hi) (g.lt j hj) e),λp hp=>by
  obtain⟨i,hi,e⟩:=h.sur p hp;obtain⟨j,hj,e'⟩:=g.sur i hi
  exact⟨j,hj,by rw[e',e]⟩⟩
theorem Bij.of{f g:18.6}{n:Nat}(a:∀i,i<n->f i<n)(b:∀i,i<n->g i<n)(c:∀i,i<n->g (f i)=i)(d:∀i,i<n->f (g i)=i):Bij f n :=
 ⟨a,λi j hi hj e=>by rw[<- c i hi,e,c j hj],λp hp=>⟨g p,b p hp,d p hp⟩⟩
def swF(i j p:Nat):Nat:=if i<=p/\p<j then i+j-1-p else p
def bbF(s l p:Nat):Nat:=if p=l then s else if l<p/\p<=s then p-1 else p
def bbG(s l p:Nat):Nat:=if p=s then l else if l<=p/\p<s then p+1 else p
theorem zv5{i j n p:Nat}(hj:j<=n)(hp:p<n):swF i j p<n:=by unfold swF;split <;> lia
theorem zvw(i j p:Nat):swF i j (swF i j p)=p:=by
 unfold swF
 by_cases a:i<=p/\p<j
 .rw[N3 a,N3 0.0];lia
 .rw[N4 a,N4 a]
theorem Bij.mix{n i j:Nat}(h:Bij ix n)(hj:j<=n):Bij (mixF ix i j) n:=by
 have e:mixF ix i j=λp=>ix (swF i j p):=by
  funext p;unfold mixF swF
  split <;> rfl
 rw[e];exact h.comp (.of (g:=swF i j) (λp hp=>zv5 hj hp) (λp hp=>zv5 hj hp) (λp _=>zvw i j p) λp _=>zvw i j p)
theorem Bij.bub{n s l:Nat}(h:Bij ix n)(hs:s<n)(hl:l<=s):Bij (bubF ix s l) n:=by
 have e:bubF ix s l=λp=>ix (bbF s l p):=by
  funext p;unfold bubF bbF
  split
  .rfl
  .split <;> rfl
 rw[e];refine h.comp (.of (g:=bbG s l) (λp hp=>?_) (λp hp=>?_) (λp hp=>?_) λp hp=>?_)
 .unfold bbF;repeat' split
  all_goals lia
 .unfold bbG;repeat' split
  all_goals lia
 .unfold bbF bbG;repeat' split
  all_goals lia
 .unfold bbF bbG;repeat' split
  all_goals lia
theorem Bij.perm{n:Nat}(h:Bij ix n):((QH n).map ix).Perm (QH n):=by
 rw[Uu];intro a
 have nd:((QH n).map ix).Nodup:=by
  unfold List.Nodup;rw[Js,Yh];intro i j hi hj hij e;rw[Z7] at hi hj;rw[Yt,Yt] at e;have:=h.inj i j hi hj e;lia
 rw[nd.count,List.nodup_range.count]
 have:(a∈(QH n).map ix)↔a∈QH n:=by
  rw[QA,ZZ];constructor
  .rintro⟨i,hi,rfl⟩;exact h.lt i (ZZ.mp hi)
  .intro ha;obtain⟨i,hi,e⟩:=h.sur a ha;exact⟨i,ZZ.mpr hi,e⟩
 by_cases z:a∈QH n
 .rw[N3 z,N3 (this.mpr z)]
 .rw[N4 z,N4 λq=>z (this.mp q)]
theorem z5y{γ:Type}(g:Nat->γ)(n:Nat):((QH n).map g).zipIdx=(QH n).map λi=>(g i,i):=by
 refine List.ext_getElem 0.3 λi h1 h2=>?_;simp
theorem zki{γ:Type}{key:γ->α}{g:Nat->γ}{n:Nat}{ix:18.6}(W:WO blt)(up:Up blt (λi=>key (g i)) ix n)(b:Bij ix n):
 (QH n).map (λi=>g (ix i))=((QH n).map g).mergeSort (λp q=>!blt (key q) (key p)):=by
 rw[<- List.mergeSort_zipIdx,z5y];have e:(QH n).map (λi=>g (ix i))=((QH n).map λi=>(g (ix i),ix i)).map (·.1):=by rw[QK];rfl
 rw[e];refine NA (List.map (λx:γ×Nat=>x.1)) ?_
 have tr:∀a b c:γ,(!blt (key b) (key a))=true->(!blt (key c) (key b))=true->(!blt (key c) (key a))=true:=λa b c h1 h2=>by
  rw[Y7] at h1 h2 ⊢;exact zix W h1 h2
 have tt:∀a b:γ,((!blt (key b) (key a)) || (!blt (key a) (key b)))=true:=λa b=>by
  cases h1:blt (key b) (key a) with
  | false=>rfl
  | true=>
    cases h2:blt (key a) (key b) with
    | false=>rfl
    | true=>have:=W.tr _ _ _ h1 h2;rw[W.irr] at this;cases this
 have m1:∀x,x∈((QH n).map λi=>(g (ix i),ix i))->x.1=g x.2:=λx hx=>by
  obtain⟨i,_,rfl⟩:=QA.mp hx;rfl
 have m2:∀x,x∈(((QH n).map λi=>(g i,i)).mergeSort (V8 λp q=>!blt (key q) (key p)))->x.1=g x.2:=λx hx=>by
  rw[(Yl _ _).mem_iff] at hx;obtain⟨i,_,rfl⟩:=QA.mp hx;rfl
 refine V9 (le:=λa b=>V8 (λp q=>!blt (key q) (key p)) a b=true) (λx y hx hy h1 h2=>?_) ?_ (Yx (List.zipIdxLE_trans tr) (List.zipIdxLE_total tt) _) ?_
 .have e1:=m1 x hx;have e2:=m2 y hy
  have e3:x.2=y.2:=by
   unfold V8 at h1 h2;dsimp only at h1 h2;cases a:blt (key y.1) (key x.1) <;> cases c:blt (key x.1) (key y.1) <;> simp[a,c] at h1 h2;lia
  exact Prod.ext (by rw[e1,e2,e3]) e3
 .rw[Js,Yh];intro i j hi hj hij;rw[Z7] at hi hj;rw[Yt,Yt];have r:=up i j hij hj;have rl:=r.le W;unfold V8
  have key2:∀(x y:Bool) (d:Bool),x=false->(y=true\/d=true)->(if(!x)=true then(if(!y)=true then d else true) else false)=true:=by
   intro x y d hx hy;subst hx;cases y
   .rcases hy with hy|hy
    .cases hy
    .simpa using hy
   .rfl
  refine key2 _ _ _ rl ?_;rcases r with r|⟨r,l⟩
  .exact .inl r
  .exact .inr (N6 (JC l))
 .refine List.Perm.trans ?_ (Yl _ _).symm;have:=b.perm.map λi=>(g i,i);rw[QK] at this;exact this
end
end L6
namespace L6
open PySem PyProof.Rows
section
variable {prog:GJ}{w:GL}{A:GN}{E:1.7}{s:GH}{α:Type}{blt:1e8}{k:Nat->α}{a₀:Array Keyed}{kd:Nh}{ix:18.6}{st:SortSt}
def zek(prog:GJ)(w:GL)(A:GN)(s:GH)(kd:Nh)(a₀:Array Keyed)(blt:1e8)(k:Nat->α):Prop :=
 ∀(i j:Nat) (x p y q:GE) (E:1.7) (Q:Bool->GH->Prop),a₀[i]? = some (x,p)->a₀[j]? = some (y,q)->Q (blt (k i) (k j)) s->wpAny 1.3 A (keyLt' kd x y) Q E s
structure Sb(a₀:Array Keyed)(kd:Nh)(ix:18.6)(st:SortSt):Prop where
 sz:(Mt st).size=a₀.size
 at_:∀i,i<a₀.size->(Mt st)[i]? = a₀[ix i]?
 bj:Bij ix a₀.size
 fa:Nk st=none
 pe:pendingOf st = #[]
 ki:kindOf st=kd
theorem zlj{i j:Nat}(hC:4e1)(b:15.3)(hi:i<a₀.size)(hj:j<a₀.size)(h:Q (some (blt (k (ix i)) (k (ix j)))) st):wpS 1.3 A E s (ltAt' i j) Q st:=by
 obtain⟨⟨x,p⟩,gi⟩:∃z,a₀[ix i]? = some z:=⟨_,QL (b.bj.lt i hi)⟩;obtain⟨⟨y,q⟩,gj⟩:∃z,a₀[ix j]? = some z:=⟨_,QL (b.bj.lt j hj)⟩;rw[ltAt'_eq];refine GX (Nn ?_);change wpS 1.3 A E s (elem' (Mt st) i >>= λx=>elem' (Mt st) j >>= λy=>lt' x y) Q st;rw[elem'_eq,elem'_eq,b.at_ i hi,b.at_ j hj,gi,gj];refine GX (Tl (GX (Tl ?_)));rw[lt'_eq];refine GX (Nn ?_);rw[b.ki];refine GX (wpS_lift (TK (hC _ _ _ _ _ _ _ _ gi gj 4.1)));exact Tl h
theorem Sb.mix{i j:Nat}(b:15.3)(hj:j<=a₀.size):Sb a₀ kd (mixF ix i j) (setArr st (mirror (Mt st) i j ((j-i) / 2))):=by
 refine⟨(mirror_size _ _ _ _).trans b.sz,λp hp=>?_,b.bj.mix hj,b.fa,b.pe,b.ki⟩;show(mirror (Mt st) i j ((j-i) / 2))[p]? = _;rw[getElem?_mirror_all (by rw[b.sz];exact hj)];unfold mixF
 split
 .exact b.at_ _ 0.0
 .exact b.at_ _ hp
theorem Sb.bub{q l:Nat}(b:15.3)(hq:q<a₀.size)(hl:l<=q):Sb a₀ kd (bubF ix q l) (setArr st (bubble (Mt st) q (q-l))):=by
 refine⟨(bubble_size _ _ _).trans b.sz,λp hp=>?_,b.bj.bub hq hl,b.fa,b.pe,b.ki⟩;show(bubble (Mt st) q (q-l))[p]? = _;rw[getElem?_bubble (by rw[b.sz];exact hq) _ 0.0,show q-(q-l)=l by lia];unfold bubF
 split
 .exact b.at_ _ hq
 .split
  .exact b.at_ _ 0.0
  .exact b.at_ _ hp
theorem ybu{n ok:Nat}(W:WO blt)(hC:4e1)(hn:n<=a₀.size)(hok:ok<=n)(h1:1<=ok)(b:15.3)(up:Up blt k ix ok)(pr:Pre ix ok)
 (h:∀ix' st',Sb a₀ kd ix' st'->Up blt k ix' n->Q true st'):wpS 1.3 A E s (binarySort' 0 n ok) Q st:=by
 rw[binarySort'_eq];simp only[VN];rw[show max ok 1=ok by lia];refine GX (N2 (Mh (I:=λq c st'=>c=(none,())/\∃ix',Sb a₀ kd ix' st'/\Up blt k ix' q/\Pre ix' q) (Q:=λc st'=>c=(none,())/\∃ix',Sb a₀ kd ix' st'/\Up blt k ix' n) ?turn ?out ⟨rfl,ix,b,up,pr⟩) ?rest)
 case rest=>
  rintro c st' ⟨rfl,ix',b',u'⟩;exact Tl (h ix' st' b' u')
 case out=>
  rintro c st' ⟨hc,ix',b',u',_⟩;rw[show max ok n=n by lia] at u';exact⟨hc,ix',b',u'⟩
 case turn=>
  rintro q c st' hq1 hq2 ⟨rfl,ix',b',u',p'⟩;have hq:q<a₀.size:=by lia
  have eq:=p'.id q (Qi _)
  refine GX (N2 (Mh (I:=λx c st2=>st2=st'/\∃l r,c=(none,l,r)/\l<=r/\r<=q/\r-l<=q-x/\(∀i,i<l->blt (k q) (k (ix' i))=false)/\∀i,r<=i->i<q->blt (k q) (k (ix' i))=true)
   (Q:=λc st2=>st2=st'/\∃l r,c=(none,l,r)/\l<=q/\(∀i,i<l->blt (k q) (k (ix' i))=false)/\∀i,l<=i->i<q->blt (k q) (k (ix' i))=true) ?tu ?ou ?bg) ?re)
  case bg=>exact⟨rfl,0,q,rfl,by lia,Qi _,by lia,λi z=>absurd z 0.0,λi z z'=>absurd z 0.0⟩
  case ou=>
   rintro c st2 ⟨rfl,l,r,rfl,z1,z2,z3,z4,z5⟩;have:l=r:=by lia
   subst this;exact⟨rfl,l,l,rfl,z2,z4,z5⟩
  case tu=>
   rintro x c st2 _ hx ⟨rfl,l,r,rfl,z1,z2,z3,z4,z5⟩;dsimp only
   by_cases ge:l ≥ r
   .rw[N3 ge];have:l=r:=by lia
    subst this;exact Tl ⟨rfl,l,l,rfl,z2,z4,z5⟩
   .rw[N4 ge];refine GX (zlj hC b' hq (j:=(l+r) / 2) 0.0 ?_);rw[eq]
    cases le:blt (k q) (k (ix' ((l+r) / 2))) with
    | true=>
      simp only[NC];refine Tl ⟨rfl,l,(l+r) / 2,rfl,by lia,by lia,by lia,z4,λi y1 y2=>?_⟩
      by_cases e:i=(l+r) / 2
      .subst e;exact le
      .exact zg3 W le ((u' _ _ (show(l+r) / 2<i by lia) y2).le W)
    | false=>
      simp only[QR,NB];refine Tl ⟨rfl,(l+r) / 2+1,r,rfl,by lia,by lia,by lia,λi y1=>?_,z5⟩
      by_cases e:i=(l+r) / 2
      .subst e;exact le
      .exact zix W ((u' i _ (show i<(l+r) / 2 by lia) 0.0).le W) le
  case re=>
   rintro c st2 ⟨rfl,l,r,rfl,z2,z4,z5⟩;change wpS 1.3 A E s (moveDown' q l >>= λ_=>pure (Yq (none,()))) _ st2;rw[moveDown'_eq];exact GX (wpS_modify (Tl ⟨rfl,bubF ix' q l,b'.bub hq z2,ycf u' p' z2 z4 z5,p'.bub z2⟩))
theorem zwo{a n:Nat}(W:WO blt)(hC:4e1)(hn:n<=a₀.size)(ha:1<=a)(han:a<=n)(b:15.3)(up:Up blt k ix a)(pr:Pre ix a)
 (h:∀m,a<=m->m<=n->Up blt k ix m->(m=n\/blt (k (ix m)) (k (ix (m-1)))=true)->Q (none,m) st):wpS 1.3 A E s (ascLoop a n) Q st:=by
 unfold ascLoop;refine Mh (I:=λx c st'=>st'=st/\c=(none,x)/\Up blt k ix x) ?turn ?out ⟨rfl,rfl,up⟩
 case out=>
  rintro c st' ⟨rfl,rfl,u⟩;rw[show max a n=n by lia] at u ⊢;exact h n han (Qi _) u 7.8
 case turn=>
  rintro x c st' h1 h2 ⟨rfl,rfl,u⟩;dsimp only;refine GX (zlj hC b 0.0 0.0 ?_)
  cases le:blt (k (ix x)) (k (ix (x-1))) with
  | true=>
    simp only[NC];exact Tl (h x h1 0.0 u (.inr le))
  | false=>
    simp only[QR,NB];refine Tl ⟨rfl,rfl,yav W u 0.0 (.inr ⟨le,?_⟩)⟩;rw[(pr.more h1).id x (Qi _)];exact(pr.more h1).lt _ 0.0
theorem ztb{m n:Nat}(W:WO blt)(hC:4e1)(hn:n<=a₀.size)(h1:1<=m)(hm:m<=n)(b:15.3)(dn:Dn blt k ix m)(pr:Pre ix m)
 (h:18.2):wpS 1.3 A E s (tail3 m n) Q st:=by
 unfold tail3;refine GX (MZ ?_);have b':=b.mix (i:=0) (j:=m) 0.0;have p':=pr.mix (i:=0) (Qi m);exact GX (zwo W hC hn h1 hm b' (ybi dn) p' λm' z1 z2 u _=>Tl (h m' _ _ b' 0.0 z2 u (p'.more z1)))
theorem z6j{m n:Nat}(W:WO blt)(hC:4e1)(hn:n<=a₀.size)(hm:m<=n)(b:15.3)(de:Des blt k ix m 0)(pr:Pre ix m)
 (h:∀m' q ix' st',Sb a₀ kd ix' st'->m<=m'->m'<=n->Des blt k ix' m' q->Pre ix' m'->Q (none,m',q) st'):wpS 1.3 A E s (descLoop m n) Q st:=by
 unfold descLoop;refine Mh (I:=λx c st'=>∃q ix',c=(none,x,q)/\Sb a₀ kd ix' st'/\Des blt k ix' x q/\Pre ix' x) ?turn ?out ⟨0,ix,rfl,b,de,pr⟩
 case out=>
  rintro c st' ⟨q,ix',rfl,b',d',p'⟩;rw[show max m n=n by lia] at d' p' ⊢;exact h n q ix' st' b' hm (Qi _) d' p'
 case turn=>
  rintro x c st' h1 h2 ⟨q,ix',rfl,b',d',p'⟩;dsimp only;have hq:=d'.le;refine GX (zlj hC b' 0.0 0.0 ?_)
  cases le:blt (k (ix' x)) (k (ix' (x-1))) with
  | true=>
    simp only[NC]
    by_cases z:q > 0
    .rw[N3 z];refine GX (MZ (Tl ⟨0,_,rfl,b'.mix 0.0,?_,(p'.mix (Qi _)).more 0.0⟩));refine ziy W d'.turn 0.0 ?_;have e1:mixF ix' (x-(q+1)) x x=ix' x:=by unfold mixF;rw[N4 0.0]
     have e2:mixF ix' (x-(q+1)) x (x-1)=ix' (x-(q+1)):=by unfold mixF;rw[N3 0.0];congr 1;lia
     rw[e1,e2];have:=d'.al (x-(q+1)) (x-1) 0.0 0.0 0.0;exact zg3 W le this.1
    .rw[N4 z];have:q=0:=by lia
     subst this;exact Tl ⟨0,ix',rfl,b',ziy W d'.dn 0.0 le,p'.more 0.0⟩
  | false=>
    simp only[QR,NB];refine GX (zlj hC b' 0.0 0.0 ?_)
    cases gr:blt (k (ix' (x-1))) (k (ix' x)) with
    | true=>
      simp only[NC];exact Tl (h x q ix' st' b' h1 0.0 d' p')
    | false=>
      simp only[QR,NB];exact Tl ⟨q+1,ix',rfl,b',ycn W d' p' le gr,p'.more 0.0⟩
theorem zsv{m n:Nat}(W:WO blt)(hC:4e1)(hn:n<=a₀.size)(hm:m+1<=n)(b:15.3)(de:Des blt k ix (m+1) 0)(pr:Pre ix (m+1))
 (h:18.2):wpS 1.3 A E s (descPart m n) Q st:=by
 unfold descPart;refine GX (wpS_lift (Tz 4.1));refine GX (z6j W hC hn hm b de pr λm' q ix' st' b' z1 z2 d' p'=>?_);dsimp only
 by_cases z:q > 0
 .rw[N3 z];exact GX (MZ (ztb W hC hn 0.0 z2 (b'.mix 0.0) d'.turn (p'.mix (Qi _)) h))
 .rw[N4 z];have:q=0:=by lia
  subst this;exact ztb W hC hn 0.0 z2 b' d'.dn p' h
theorem yay{n:Nat}(W:WO blt)(hC:4e1)(hn:n<=a₀.size)(h1:1<=n)(b:Sb a₀ kd (λi=>i) st)
 (h:18.2):wpS 1.3 A E s (countRun' 0 n) Q st:=by
 rw[countRun0_eq];refine GX (zwo W hC hn (Qi 1) h1 b (λi j z z'=>absurd z 0.0) Pre.idf λm z1 z2 u o=>?_);dsimp only
 by_cases e:m=n
 .rw[N3 9.0];exact Tl (h m _ st b z1 z2 u Pre.idf)
 .rw[N4 9.0];have lt:=o.resolve_left e
  by_cases g:m > 1
  .rw[N3 g];refine GX (zlj hC b (i:=0) (j:=m-1) 0.0 0.0 ?_)
   cases ro:blt (k 0) (k (m-1)) with
   | true=>
     simp only[NC];exact Tl (h m _ st b z1 z2 u Pre.idf)
   | false=>
     simp only[QR,NB];refine GX (MZ (zsv W hC hn 0.0 (b.mix 0.0) ?_ ((Pre.idf.mix (Qi m)).more 0.0) h))
     have al:∀i j,i<j->j<m->blt (k j) (k i)=false/\blt (k i) (k j)=false:=λi j y1 y2=>by
      refine⟨(u i j y1 y2).le W,?_⟩
      have a1:blt (k i) (k 0)=false:=by
       by_cases q:i=0
       .subst q;exact W.irr _
       .exact(u 0 i 0.0 0.0).le W
      have a2:blt (k (m-1)) (k j)=false:=by
       by_cases q:j=m-1
       .subst q;exact W.irr _
       .exact(u j (m-1) 0.0 0.0).le W
      exact zix W (zix W a2 ro) a1
     refine ziy W (λi j y1 y2=>?_) 0.0 ?_
     .have e1:mixF (λi=>i) 0 m i=m-1-i:=by unfold mixF;rw[N3 0.0];show 0+m-1-i=m-1-i;lia
      have e2:mixF (λi=>i) 0 m j=m-1-j:=by unfold mixF;rw[N3 0.0];show 0+m-1-j=m-1-j;lia
      rw[e1,e2];exact .inr ⟨(al _ _ 0.0 0.0).1,by lia⟩
     .have e1:mixF (λi=>i) 0 m m=m:=by unfold mixF;rw[N4 0.0]
      have e2:mixF (λi=>i) 0 m (m-1)=0:=by unfold mixF;rw[N3 0.0];show 0+m-1-(m-1)=0;lia
      rw[e1,e2];exact zg3 W lt ro
  .rw[N4 g];have:m=1:=by lia
   subst this;refine zsv W hC hn 0.0 b (ziy W (λi j y1 y2=>absurd y1 0.0) 0.0 lt) Pre.idf h
theorem z7e(W:WO blt)(hC:4e1)(b:Sb a₀ kd (λi=>i) st)(h2:2<=a₀.size)(h64:a₀.size<64)
 (h:∀ix' st',(Mt st').size=a₀.size->(∀i,i<a₀.size->(Mt st')[i]? = a₀[ix' i]?)->Bij ix' a₀.size->Nk st'=none->Up blt k ix' a₀.size->Q () st'):wpS 1.3 A E s sortRuns' Q st:=by
 rw[sortRuns'_eq];refine GX (Nn ?_);dsimp only
 have mr:minRun' a₀.size a₀.size 0=a₀.size:=by
  have key:∀f n:Nat,n<64->minRun' (f+1) n 0=n:=λf n hn=>by rw[minRun'_succ,N3 hn];rfl
  have:=key (a₀.size-1) a₀.size h64;rwa [show a₀.size-1+1=a₀.size by lia] at this
 simp only[b.sz,mr]
 let Fin':SortSt->Prop:=λst'=>∃ix',(Mt st').size=a₀.size/\(∀i,i<a₀.size->(Mt st')[i]? = a₀[ix' i]?)/\Bij ix' a₀.size/\Nk st'=none/\pendingOf st' = #[(0,a₀.size,0)]/\Up blt k ix' a₀.size
 have fin:∀ix' st',Sb a₀ kd ix' st'->Up blt k ix' a₀.size->Fin' (setPending st' ((pendingOf st').push (0,a₀.size,0))):=λix' st' b' u'=>
  ⟨ix',b'.sz,b'.at_,b'.bj,b'.fa,by show(pendingOf st').push _=_;rw[b'.pe];rfl,u'⟩
 refine GX (N2 (Mh (I:=λx c st'=>(x=0/\c=(none,0)/\Sb a₀ kd (λi=>i) st')\/(1<=x/\c=(none,a₀.size)/\Fin' st')) (Q:=λc st'=>c=(none,a₀.size)/\Fin' st') ?turn ?out (.inl ⟨rfl,rfl,b⟩)) ?rest)
 case out=>
  rintro c st' (⟨z,_,_⟩|⟨_,z,f⟩)
  .lia
  .exact⟨z,f⟩
 case turn=>
  rintro x c st' _ hx (⟨rfl,rfl,b'⟩|⟨_,rfl,f⟩)
  .dsimp only;rw[N4 0.0];simp only[VM,Nat.min_self,VN];refine GX (yay W hC (Qi _) 0.0 b' λm ix2 st2 b2 z1 z2 u2 p2=>?_);dsimp only
   by_cases lt:m<a₀.size
   .rw[N3 lt];refine GX (wpS_lift (Tz 4.1));refine GX (ybu W hC (Qi _) z2 z1 b2 u2 p2 λix3 st3 b3 u3=>?_);simp only[Bool.not_true,QR,NB];refine GX (Nn ?_);rw[show(pendingOf st3).back? = none by rw[b3.pe];rfl];dsimp only;exact GX (wpS_modify (Tl (.inr ⟨by lia,rfl,fin ix3 st3 b3 u3⟩)))
   .rw[N4 lt];have:m=a₀.size:=by lia
    subst this;refine GX (Nn ?_);rw[show(pendingOf st2).back? = none by rw[b2.pe];rfl];dsimp only;exact GX (wpS_modify (Tl (.inr ⟨by lia,rfl,fin ix2 st2 b2 u2⟩)))
  .dsimp only;rw[N3 (Qi _)];exact Tl ⟨rfl,f⟩
 case rest=>
  rintro c st' ⟨rfl,ix',z1,z2,z3,z4,z5,z6⟩;dsimp only;refine GX (N2 (Mh (I:=λ_ c st2=>st2=st'/\c=(none,())) (Q:=λc st2=>st2=st'/\c=(none,())) ?_ (λ_ _ y=>y) ⟨rfl,rfl⟩) ?_)
  .rintro x c st2 _ _ ⟨rfl,rfl⟩;refine GX (Nn ?_);rw[N3 (by rw[z5];exact Qi 1)];exact Tl ⟨rfl,rfl⟩
  .rintro c st2 ⟨rfl,rfl⟩;exact Tl (h ix' _ z1 z2 z3 z4 z6)
end
section
variable {prog:GJ}{w:GL}{A:GN}{E:1.7}{s:GH}
structure Ord{α:Type}(blt:1e8)(k:Nat->α)(n:Nat)(ix:18.6):Prop where
 bj:Bij ix n
 up:Up blt k ix n
def zc2(vs:2.8)(ix:18.6):List GE:=(QH vs.length).map λi=>vs.getD (ix i) .none
structure KeysOk{α:Type}(prog:GJ)(w:GL)(A:GN)(s:GH)(ks vs:2.8)(blt:1e8)(k:Nat->α):Prop where
 wo:WO blt
 kd:2<=vs.length->∃kd:Nh,(∀(E:1.7) (Q:Nh->GH->Prop),Q kd s->wpAny 1.3 A (keyKind' ks.toArray) Q E s)/\zek prog w A s kd 11.6 blt k
theorem ze6{ks vs:2.8}(hl:15.9){i:Nat}{p:Keyed}(h:11.6[i]? = some p):ks[i]? = some p.1/\vs[i]? = some p.2:=by
 have:(ks.zip vs)[i]? = some p:=by
  have e:ks.toArray.zip vs.toArray=(ks.zip vs).toArray:=by simp
  rw[e] at h;simpa using h
 rw[Vq] at this;exact this
theorem z4o{vs:2.8}{ks:2.8}(hl:15.9){ix:18.6}(bj:Bij ix vs.length){arr:Array Keyed}(hz:arr.size=vs.length)(h:∀i,i<vs.length->arr[i]? = 11.6[ix i]?):arr.map (·.2)=(zc2 vs ix).toArray:=by
 refine Array.ext (by simp[zc2,hz]) λi h1 h2=>?_;have hi:i<vs.length:=by simpa[zc2] using h2
 have hx:=bj.lt i hi;have h3:=h i hi;obtain⟨p,hp⟩:∃p,arr[i]? = some p:=⟨_,QL 0.0⟩;have h4:=(ze6 hl (h3.symm.trans hp)).2;have e1:(arr.map (·.2))[i]? = some p.2:=by simp[hp]
 have e2:(zc2 vs ix).toArray[i]? = some p.2:=by
  simp only[zc2,YF,Ql,Yj hi,JJ];rw[Q5,h4];rfl
 rw[QL h1] at e1;rw[QL h2] at e2;exact Zy (e1.trans e2.symm)
theorem z8t{α:Type}{blt:1e8}{k:Nat->α}{e ea:Nat}(hl:15.9)(h64:vs.length<64)
 (hk:s.heap.get? kS=some 16.3) (ha:s.heap.get? a=some 4e4) (hne:kS≠a) (K:KeysOk prog w A s ks vs blt k)
 (h:∀ix,Ord blt k vs.length ix->P (.done (.ret .none)) { s with heap:=(s.heap.update kS 8e1).update a (QJ λ_=>(zc2 vs ix).toArray) }) :
 wpAny 1.3 A (ksk_end a false vs.toArray ea (.ref kS) ks.toArray) P E s:=by
 have hz:(ks.toArray.zip vs.toArray).size=vs.length:=by simp[hl]
 have ha2:(s.heap.update kS 8e1).get? a=some 4e4:=by
  have:=TB hk (λ_=>#[]);rw[QS _ _ _ _ (ZD hne)];exact ha
 have fin:∀(st':SortSt) ix,(Mt st').size=vs.length->(∀i,i<vs.length->(Mt st')[i]? = 11.6[ix i]?)->Nk st'=none->Ord blt k vs.length ix ->
  wpAny 1.3 A (ksk_tail a false ea (.ref kS) st') P E s:=λst' ix z1 z2 z3 o=>by
  have ep:=z4o hl o.bj z1 z2;unfold ksk_tail;dsimp only;refine GD (TV hk rfl ?_ 27.6);refine GD (wpAny_letGo ?_);refine GD (Nr ha2 rfl ?_)
  refine GD (TV ha2 rfl ?_ (hsz2:=by
   rw[GK];simp only[QR,NB];rw[ep];simp[zc2]
   lia))
  rw[z3];simp only[bne_self_eq_false,QR,NB];rw[ep];exact GG (h ix o)
 unfold ksk_end;dsimp only;simp only[QR,NB]
 by_cases h2:vs.toArray.size<2
 .rw[N3 h2,N3 h2];refine GD 0e6;rw[StateT.run_pure];refine GD 0e6;have h2':vs.length<2:=by simpa using h2
  refine fin _ (λi=>i) hz (λi _=>rfl) rfl ⟨Bij.idf,λi j z1 z2=>by lia⟩
 .rw[N4 h2,N4 h2];have h2':2<=vs.length:=by simpa using h2
  obtain⟨kd,kk,cm⟩:=K.kd h2';refine GD (kk _ _ ?_)
  refine GD (GQ (z7e (kd:=kd) (st:=SortSt.mk' kd 11.6 #[] 7 none) (Q:=λ_ st'=>∃ix,(Mt st').size=vs.length/\(∀i,i<vs.length->(Mt st')[i]? = 11.6[ix i]?)/\Nk st'=none/\Ord blt k vs.length ix)
   K.wo cm ⟨rfl,λi _=>rfl,Bij.idf,rfl,rfl,rfl⟩ 0.0 0.0 λix st' z1 z2 z3 z4 z5=>?_) ?_ λ_ _ e=>e)
  .rw[hz] at z1 z2 z3 z5;exact⟨ix,z1,z2,z4,z3,z5⟩
  .rintro⟨⟨⟩,st'⟩ s' ⟨rfl,ix,z1,z2,z3,z4⟩;exact fin st' ix z1 z2 z3 z4
theorem zps{ea:Nat}(J:Nat->List GE->GH->Prop)(h64:vs.length<64)(h0:J 0 [] s)
 (step:∀(i:Nat) (x:GE) (ks:2.8) (s':GH),vs[i]? = some x->ks.length=i->J i ks s'->wpAny 1.3 A (call f [x]) (λkv s2=>(∃e,s2.heap.get? kS=some 16.3)/\J (i+1) (ks ++ [kv]) { s2 with heap:=s2.heap.update kS (QJ (·.push kv)) }) 2e7 s')
 (fin:∀(ks:2.8) (s':GH),ks.length=vs.length->J vs.length ks s'->∃(α:Type) (blt:1e8) (k:Nat->α) (e:Nat),s'.heap.get? kS=some 16.3/\s'.heap.get? a=some 4e4/\kS≠a/\KeysOk prog w A s' ks vs blt k /\
  ∀ix,Ord blt k vs.length ix->P (.done (.ret .none)) { s' with heap:=(s'.heap.update kS 8e1).update a (QJ λ_=>(zc2 vs ix).toArray) }) :
 wpAny 1.3 A (ksk_rest a f false vs.toArray ea (.ref kS)) P E s:=by
 unfold ksk_rest;refine GD (Tz ?_);refine GD ?_;rw[<- Array.forIn_toList];refine ksk_fold (λi s'=>∃ks,ks.length=i/\J i ks s') vs 0 s ⟨[],rfl,h0⟩ (λj x s' hx zz=>?_) λs' zz=>?_
 .obtain⟨ks,hk,hJ⟩:=zz;rw[VN] at hk hJ ⊢;have hj:j<vs.length:=(Qc.mp hx).1;refine GD (TK (GQ (step j x ks s' hx hk hJ) (λkv s2 ⟨⟨e,h1⟩,h2⟩=>?_) λ_ _ z=>z.elim));dsimp only;refine GD (TV h1 rfl ?_ 27.6 27.6);exact GG ⟨rfl,ks ++ [kv],by simp[hk],h2⟩
 .obtain⟨ks,hk,hJ⟩:=zz;rw[VN] at hk hJ;obtain⟨α,blt,k,e,h1,h2,h3,h4,h5⟩:=fin ks s' hk hJ;refine GD (Mw h1 rfl ?_);exact z8t hk h64 h1 h2 h3 h4 h5
end
def eat(c:Nat):List Nat->List Nat
 | []=>[]
 | x::r=>if x=c then r else x::r
def eats(l:0.7):List Nat->List Nat:=λless=>l.foldl (λr c=>eat c r) less
def under(less more:0.7):Bool:=(eats more less).isEmpty
theorem z1j(l:0.7):eats l [] = []:=by
 induction l with
 | nil=>rfl
 | cons c l ih=>exact ih
theorem under_iff:∀{more less:0.7},under less more=true↔less.Sublist more
 | [],[]=>by simp[under,eats]
 | [],x::less=>by simp[under,eats]
 | c::more,[]=>by simp[under,z1j]
 | c::more,x::less=>by
   show under (eat c (x::less)) more=true↔_
   by_cases h:x=c
   .subst h;rw[show eat x (x::less)=less from N3 rfl,under_iff (more:=more) (less:=less)];exact⟨λz=>z.cons_cons x,λz=>by cases z with|cons _ z=>exact List.Sublist.trans (VO _ _) z|cons_cons _ z=>exact z⟩
   .rw[show eat c (x::less)=x::less from N4 h,under_iff (more:=more) (less:=x::less)];exact⟨λz=>z.cons c,λz=>by cases z with|cons _ z=>exact z|cons_cons _ z=>exact absurd rfl h⟩
def zbq(c:Nat)(more:0.7)(start:Nat):Option Nat:=((QH more.length).filter λi=>decide (start<=i) && decide (more[i]? = some c)).head?
def plc:List Nat->List Nat->Nat->List Nat->Option 1.2
 | [],_,_,acc=>some acc
 | c::r,more,start,acc=>match zbq c more start with
   | none=>none
   | some p=>plc r more (p+1) (acc ++ [p])
theorem zfp{c:Nat}{more:0.7}{start p:Nat}(h:zbq c more start=some p):start<=p/\more[p]? = some c/\∀i,start<=i->i<p->more[i]?≠some c:=by
 unfold zbq at h;rw[V0] at h;have h1:=VX h;rw[Q6] at h1;refine⟨N7 h1.1,N7 h1.2,λi hi hp e=>?_⟩;obtain⟨_,as,bs,e1,e2⟩:=List.find?_eq_some_iff_append.mp h
 have hl:p=as.length:=by
  have:=NA (λl=>l[as.length]?) e1;simp at this
  have hlt:as.length<more.length:=by
   have:=NA YQ e1;simp at this;lia
  rw[Yj hlt] at this;simpa using this.symm
 have hlt:p<more.length:=by
  have:=(Qc.mp (N7 h1.2)).1;exact this
 have hm:i∈as:=by
  have e3:=NA (λl=>l[i]?) e1;rw[Yj 0.0,Q7 0.0] at e3;exact Zg e3.symm
 have:=e2 i hm;rw[N6 hi,N6 e] at this;simp at this
theorem znk{c:Nat}{more:0.7}{start:Nat}(h:zbq c more start=none):∀i,start<=i->more[i]?≠some c:=λi hi e=>by
 unfold zbq at h;rw[V0,Yu] at h;have hlt:=(Qc.mp e).1;have:=h i (ZZ.mpr hlt);rw[N6 hi,N6 e] at this;simp at this
theorem zrb{c:Nat}: ∀{k:Nat} {l:0.7},(∀i,i<k->l[i]?≠some c)->((c::r).Sublist l↔(c::r).Sublist (l.drop k))
 | 0,l,_=>by simp
 | k+1,[],_=>by simp
 | k+1,y::l,h=>by
   have hy:y≠c:=λe=>h 0 0.0 (by simp[e]);have ih:=zrb (r:=r) (k:=k) (l:=l) λi hi=>by have:=h (i+1) 0.0;simpa using this
   rw[List.drop_succ_cons,<- ih];exact⟨λz=>by cases z with|cons _ z=>exact z|cons_cons _ z=>exact absurd rfl hy,λz=>z.cons y⟩
theorem zk1:∀(less more:0.7) (start:Nat) (acc:0.7),(plc less more start acc).isSome=true↔less.Sublist (more.drop start)
 | [],more,start,acc=>by simp[plc]
 | c::r,more,start,acc=>by
   unfold plc
   cases h:zbq c more start with
   | none=>
     have hn:=znk h;refine⟨λz=>21.7,λz=>?_⟩;have hm:c∈more.drop start:=z.subset Q0;obtain⟨i,hi⟩:=JT.mp hm;rw[Zk] at hi;exact absurd hi (hn _ 0.0)
   | some p=>
     obtain⟨h1,h2,h3⟩:=zfp h;have ih:=zk1 r more (p+1) (acc ++ [p]);show(plc r more (p+1) (acc ++ [p])).isSome=true↔_;rw[ih]
     have e1:=zrb (c:=c) (r:=r) (k:=p-start) (l:=more.drop start) λi hi=>by
      rw[Zk];exact h3 _ 0.0 0.0
     rw[e1,J8,show start+(p-start)=p by lia];obtain⟨hp,hv⟩:=Qc.mp h2;rw[Q4 hp,hv];exact⟨λz=>z.cons_cons c,λz=>by cases z with|cons _ z=>exact(VO _ _).trans z|cons_cons _ z=>exact z⟩
theorem zwj(less more:0.7):(plc less more 0 []).isSome=under less more:=by
 have:=zk1 less more 0 [];rw[Vm,<- under_iff] at this;cases h:(plc less more 0 []).isSome <;> cases h':under less more <;> simp_all
def wlt(a b:0.7):Bool:=decide (a.length<b.length) || (decide (a.length=b.length) && decide (a<b))
theorem zij(a:0.7):wlt a a=false:=by simp[wlt,Y9]
theorem zma: wlt a b=true↔a.length<b.length\/(a.length=b.length/\a<b):=by simp[wlt]
theorem zp9(a b c:0.7)(h:wlt a b=true)(h':wlt b c=true):wlt a c=true:=by
 rw[zma] at *;rcases h with h|⟨h1,h2⟩ <;> rcases h' with h'|⟨h3,h4⟩
 .left;lia
 .left;lia
 .left;lia
 .right;exact⟨by lia,U2 h2 h4⟩
theorem zr6(a b:0.7)(h:wlt a b=false)(h':wlt b a=false):a=b:=by
 have n1:¬(wlt a b=true):=by rw[h];simp
 have n2:¬(wlt b a=true):=by rw[h'];simp
 rw[zma] at n1 n2;have hl:a.length=b.length:=by lia
 have l1:¬a<b:=λz=>n1 (.inr ⟨hl,z⟩);have l2:¬b<a:=λz=>n2 (.inr ⟨hl.symm,z⟩);exact UZ (JA.mp l2) (JA.mp l1)
theorem z7y(a b c:0.7)(h:wlt a c=true):wlt a b=true\/wlt b c=true:=by
 cases h1:wlt a b with
 | true=>exact .inl rfl
 | false=>
   right
   cases h2:wlt b a with
   | true=>exact zp9 _ _ _ h2 h
   | false=>rw[<- zr6 a b h1 h2];exact h
theorem zrl{α:Type}[BEq α][LawfulBEq α]{l m:6.5}(h:l.Nodup)(h':m.Nodup)(e:∀x,x∈l↔x∈m):l.Perm m:=by
 rw[Uu];intro a;rw[h.count,h'.count]
 by_cases z:a∈l
 .rw[N3 z,N3 ((e a).mp z)]
 .rw[N4 z,N4 λq=>z ((e a).mpr q)]
theorem zzc{l m:2.9}(h:l.Pairwise λa b=>wlt a b=true)(h':m.Pairwise λa b=>wlt a b=true)(e:∀x,x∈l↔x∈m):l=m:=by
 have nd:∀{l:2.9},l.Pairwise (λa b=>wlt a b=true)->l.Nodup:=λh=>h.imp λ{a b} z e=>by subst e;rw[zij] at z;cases z
 refine V9 (le:=λa b=>wlt a b=true) (λa b _ _ z1 z2=>?_) h h' (zrl (nd h) (nd h') e);have:=zp9 _ _ _ z1 z2;rw[zij] at this;cases this
end L6
namespace L6
open PySem PyProof.Rows PySem.W
theorem zwk:WO (λa b:Int=>decide (a<b)):=⟨λa=>by simp,λa b c h h'=>by simp at *;lia,λa b c h=>by simp at *;lia⟩
theorem ya1:WO (λa b:List Nat=>decide (a<b)):=by
 refine⟨λa=>by simp[Y9],λa b c h h'=>?_,λa b c h=>?_⟩
 .simp only[N8] at *;exact U2 h h'
 .simp only[N8] at *
  by_cases z:a<b
  .exact .inl z
  .exact .inr (Uv (JA.mp z) h)
def plt(a b:Int×List Nat):Bool:=decide (a.1<b.1) || (decide (a.1=b.1) && decide (a.2<b.2))
theorem ziz: plt a b=true↔a.1<b.1\/(a.1=b.1/\a.2<b.2):=by simp[plt]
theorem zyn:WO plt:=by
 refine⟨λa=>by simp[plt,Y9],λa b c h h'=>?_,λa b c h=>?_⟩
 .rw[ziz] at *;rcases h with h|⟨h1,h2⟩ <;> rcases h' with h'|⟨h3,h4⟩
  .left;lia
  .left;lia
  .left;lia
  .right;exact⟨by lia,U2 h2 h4⟩
 .rw[ziz,ziz];rw[ziz] at h
  by_cases z1:a.1<b.1
  .exact .inl (.inl z1)
  .by_cases z2:b.1<c.1
   .exact .inr (.inl z2)
   .rcases h with h|⟨h1,h2⟩
    .lia
    .have e1:a.1=b.1:=by lia
     have e2:b.1=c.1:=by lia
     by_cases z:a.2<b.2
     .exact .inl (.inr ⟨e1,z⟩)
     .exact .inr (.inr ⟨e2,Uv (JA.mp z) h2⟩)
theorem z7p(a b:0.7):plt ((a.length:Nat),a) ((b.length:Nat),b)=wlt a b:=by
 unfold plt wlt
 congr 1
 .exact decide_eq_decide.mpr (by show((a.length:Nat):Int)<((b.length:Nat):Int)↔_;lia)
 .congr 1
  exact decide_eq_decide.mpr (by show((a.length:Nat):Int)=((b.length:Nat):Int)↔_;lia)
section
variable {prog:GJ}{w:GL}{A:GN}{s:GH}{ks vs:2.8}
theorem z1e{ns:27.9}(hl:15.9)(hk:∀(i:Nat) v,ks[i]? = some v->∃t,v = .int (ns.getD i 0) t):KeysOk prog w A s ks vs (λa b:Int=>decide (a<b)) (λi=>ns.getD i 0):=by
 refine⟨zwk,λh2=>⟨oneType',λE Q q=>?_,λi j x p y q E Q hi hj h=>?_⟩⟩
 .refine kas_kind (T:=.type "int") 0.0 (λv hv=>?_) (by rfl) (by rfl) q;obtain⟨i,hi⟩:=JT.mp hv;obtain⟨t,rfl⟩:=hk i v hi;exact .now
 .obtain⟨t,rfl⟩:=hk i x (ze6 hl hi).1;obtain⟨u,rfl⟩:=hk j y (ze6 hl hj).1;exact kat_lt_int h
theorem z1z{xs:2.4}(hl:15.9)(hk:∀(i:Nat) v,ks[i]? = some v->∃t,v = .str (xs.getD i QO) t):KeysOk prog w A s ks vs (λa b:List Nat=>decide (a<b)) (λi=>(xs.getD i QO).cps.toList):=by
 refine⟨ya1,λh2=>⟨oneType',λE Q q=>?_,λi j x p y q E Q hi hj h=>?_⟩⟩
 .refine kas_kind (T:=.type "str") 0.0 (λv hv=>?_) (by rfl) (by rfl) q;obtain⟨i,hi⟩:=JT.mp hv;obtain⟨t,rfl⟩:=hk i v hi;exact .now
 .obtain⟨t,rfl⟩:=hk i x (ze6 hl hi).1;obtain⟨u,rfl⟩:=hk j y (ze6 hl hj).1;exact kas_lt_str h
def zpm(h:Heap)(v:GE)(n:Int)(x:Str):Prop:=∃(a:Addr) (o:Obj) (t u:Tok) (e:Nat),v = .ref a/\h.get? a=some o/\o.cls = .type "tuple" /\ o.data = .seq #[.int n t,.str x u] e
theorem zyg{ps:List (Int×Str)}(hl:15.9)(hp:ps.length=ks.length)(hk:∀(i:Nat) v p,ks[i]? = some v->ps[i]? = some p->zpm s.heap v p.1 p.2):
 KeysOk prog w A s ks vs plt (λi=>((ps.getD i (0,QO)).1,(ps.getD i (0,QO)).2.cps.toList)):=by
 have hk':∀(i:Nat) v,ks[i]? = some v->zpm s.heap v (ps.getD i (0,QO)).1 (ps.getD i (0,QO)).2:=λi v e=>by
  have hi:i<ps.length:=by rw[hp];exact(Qc.mp e).1
  have:=hk i v ps[i] e (Qg hi);rw[Q5,Qg hi];exact this
 refine⟨zyn,λh2=>⟨tuples' true,λE Q q=>?_,λi j x p y q E Q hi hj h=>?_⟩⟩
 .have go:∀l:List GE,(∀v∈l,∃n x,zpm s.heap v n x)->∃fs:List GE,KatTups s.heap l fs/\fs.length=l.length/\∀f∈fs,∃n t,f = .int n t:=by
   intro l
   induction l with
   | nil=>exact λ_=>⟨[],.nil,rfl,λ_ h=>by cases h⟩
   | cons v l ih=>
     intro h;obtain⟨fs,z1,z2,z3⟩:=ih λv' hv=>h v' (Qm _ hv);obtain⟨n,x,a,o,t,u,e,rfl,ho,hc,hd⟩:=h v Q0;refine⟨.int n t::fs,.cons ho hc hd rfl z1,by simp[z2],λf hf=>?_⟩;rcases Q2.mp hf with rfl|hf
     .exact⟨n,t,rfl⟩
     .exact z3 f hf
  obtain⟨fs,z1,z2,z3⟩:=go ks λv hv=>by
   obtain⟨i,hi⟩:=JT.mp hv;exact⟨_,_,hk' i v hi⟩
  refine kat_kind (T:=.type "int") z1 0.0 (λf hf=>?_) (by rfl) q;obtain⟨n,t,rfl⟩:=z3 f hf;exact .now
 .obtain⟨a,o,t,u,e,rfl,ho,hc,hd⟩:=hk' i x (ze6 hl hi).1;obtain⟨a',o',t',u',e',rfl,ho',hc',hd'⟩:=hk' j y (ze6 hl hj).1;dsimp only at h;generalize (ps.getD i (0,QO)).1=n at *;generalize (ps.getD i (0,QO)).2=x at *;generalize (ps.getD j (0,QO)).1=m at *;generalize (ps.getD j (0,QO)).2=y at *;refine kat_lt ho hd ho' hd' (kat_cons (wpAny_eqBool_int ?_))
  by_cases en:n=m
  .subst en;rw[show(n == n)=true by simp];refine kat_yes (kat_cons (wpAny_eqBool_str ?_))
   by_cases ex:x=y
   .subst ex;rw[show decide (x=x)=true by simp];refine kat_yes (kat_nil ?_);simpa[plt,Y9] using h
   .rw[N5 ex];refine kat_no (kat_one _ _ ?_);have e1:plt (n,x.cps.toList) (n,y.cps.toList)=decide (x.cps.toList<y.cps.toList):=by simp[plt]
    rw[e1] at h;exact lt_str h
  .rw[show(n == m)=false by simpa using en];refine kat_no ?_;have e1:plt (n,x.cps.toList) (m,y.cps.toList)=decide (n<m):=by simp[plt,en]
   rw[e1] at h;exact oneLt_int h
end
end L6
namespace L2
open PySem PySem.Spec
open PyProof.Rows hiding St
section
variable {X:Cx}{pins:1.1}{σ:St}{H:Hp}{s:GH}{h':Heap}
theorem Inv.adopt{t':Nat}(I:0.6)(fp:FpOk X pins H q)(k:∀b u,b≠q->s.heap.get? b=some u->h'.get? b=some u)(new:ObjOk X.prog X.w (upd H q o) h' q o):Inv X pins σ (upd H q o) 2e3:=by
 obtain⟨f0,f1,f2,f3,f4,f5⟩:=fp;have nq:∀c u,H c=some u->c≠q:=λc u e=>zce e f0
 refine I.step (g':=s.gens) (d':=s.drawn) (ch:=[q]) (λb hb=>?_) (λb o _ _ hc e _=>k b o 10.1 e) (λb o _ _ hc e _=>⟨o.slots,k b o 10.1 e⟩)
  (λb o hc _ n=>by rw[zac 10.1];exact n) (λb o hc e=>⟨o,k b o 10.1 e⟩) (λb xs e=>by rw[zac (nq _ _ e)];exact e) (λb o u e=>by rw[zac (nq _ _ e)];exact e)
  (λb ps e=>⟨#[],by rw[zac (nq _ _ e),e];simp⟩) (λm hm=>?_) (λb u e=>?_) I.bare
 .have e:b=q:=by simpa using hb
  subst e;exact⟨f3,f1,f4,f5⟩
 .obtain⟨o,es,ep,ho,r⟩:=hm;exact⟨o,es,ep,k _ o (ZD f1) ho,r⟩
 .by_cases hb:b=q
  .subst hb;rw[zah] at e;cases e;exact new
  .rw[zac hb] at e;refine(I.hok b u e).stay (λc v hc r=>k c v ?_ r) (λc r=>by rw[zac (nq _ _ r)];exact r) λc xs r=>by rw[zac (nq _ _ r)];exact r
   rcases hc with z|z
   .rw[z];exact hb
   .exact nq _ _ z
theorem Room.in2{k:Nat}(r:Room (k+1) A):Room k A.in1.in1 :=
 ⟨r.hd,by have:=r.dp;show A.depth+3 * k+5<_;lia,by have:=r.un;show A.units+1+1+16 * k+200<_;lia,r.gd⟩
theorem z8s{k:Nat}(F:FnOk X.prog X.w X.K X.mg X.base CX0 k f fd ps sp)(hr:Room (k+1) X.A)(hb:Binds X.K fd ps [])
 (I:0.6) (r:Vals vs us) (h:sp vs H Q E0):wpAny 0.5 X.A.in1.in1 (call 9.1 us) 7.0 2e7 s:=by
 have hl:us.length=ps.length:=by rw[<- r.length];exact F.len _ _ _ _ h
 have bd:=hb s us I.kIn (by rw[Zd];exact hl);rw[Zd] at bd;refine Mj (TH (F.run X.A.in1.in1 X.stack s H 2e5 us vs Q E0 hr.in2 I.env0.in1.in1 bd r h) λr s' hq=>?_)
 cases r with
 | error e=>exact Zr hq
 | ok fl=>
   cases fl with
   | ret u=>exact I.after hq
   | next=>exact Zr hq
   | brk=>exact Zr hq
   | cont=>exact Zr hq
end
end L2
namespace L6
open PySem PySem.Spec
open PyProof.Rows hiding St
open L2 L3
def zop(sp:Sp)(R:List V->Hp->Prop):List V->List V->Hp->Prop
 | [],ks,H=>R ks H
 | x::xs,ks,H=>sp [x] H (λk H'=>zop sp R xs (ks ++ [k]) H') E0
inductive KeysV(K:Qa)(H:Hp):List V->(α:Type)->(α->α->Bool)->(Nat->α)->Prop
 | int (ns:27.9):KeysV K H 5e1 Int (λa b=>decide (a<b)) (λi=>ns.getD i 0)
 | txt (xs:2.4):KeysV K H (xs.map V.str) 1.2 (λa b=>decide (a<b)) (λi=>(xs.getD i QO).cps.toList)
 | pair (ps:List (Int×Str)) (ks:5.4) (hl:ps.length=ks.length) (h:∀(i:Nat) v p,ks[i]? = some v->ps[i]? = some p->∃a,v = .ref a/\SqT K H a [.int p.1,.str p.2]) :
  KeysV K H ks (Int×List Nat) plt (λi=>((ps.getD i (0,QO)).1,(ps.getD i (0,QO)).2.cps.toList))
def zdf{α:Type}(d:α)(xs:6.5)(ix:18.6):List α:=(QH xs.length).map λi=>xs.getD (ix i) d
section
variable {X:Cx}{pins:1.1}{σ:St}{H:Hp}{s:GH}
theorem Vals.pick(r:Vals xs vs)(bj:Bij ix vs.length):Vals (zdf .non xs ix) (zc2 vs ix):=by
 have hl:=r.length
 have go:∀l:List Nat,(∀i∈l,i<vs.length)->Vals (l.map λi=>xs.getD (ix i) .non) (l.map λi=>vs.getD (ix i) .none):=by
  intro l
  induction l with
  | nil=>exact λ_=>.nil
  | cons i l ih=>
    intro h;have hi:=bj.lt i (h i Q0);have e1:xs[ix i]? = some (xs.getD (ix i) .non):=by rw[Q5,Qg 0.0];rfl
    obtain⟨u,hu,ru⟩:=Vals.get r e1;have e2:vs.getD (ix i) .none=u:=by rw[Q5,hu];rfl
    refine .cons ?_ (ih λj hj=>h j (Qm _ hj));show L2.RelV (xs.getD (ix i) .non) (vs.getD (ix i) .none);rw[e2];exact ru
 unfold zdf zc2;rw[hl];exact go _ λi hi=>ZZ.mp hi
theorem zpf{α:Type}{blt:1e8}{k:Nat->α}{kvs:5.4}{ks vs:2.8}{A:GN}(I:0.6)(h:KeysV X.K H kvs α blt k)(r:Vals kvs ks)(hl:15.9):KeysOk X.prog X.w A s ks vs blt k:=by
 cases h with
 | int ns=>
   refine z1e hl λi v e=>?_;have hi:=(Qc.mp e).1;have hi':i<ns.length:=by have:=r.length;rw[Qf] at this;lia
   obtain⟨u,hu,ru⟩:=Vals.get r (i:=i) (x:=V.int ns[i]) (by rw[Ql,Qg hi'];rfl);rw[e] at hu;cases hu;obtain⟨t,rfl⟩:=ru;exact⟨t,by rw[Q5,Qg hi'];rfl⟩
 | txt xs=>
   refine z1z hl λi v e=>?_;have hi:=(Qc.mp e).1;have hi':i<xs.length:=by have:=r.length;rw[Qf] at this;lia
   obtain⟨u,hu,ru⟩:=Vals.get r (i:=i) (x:=V.str xs[i]) (by rw[Ql,Qg hi'];rfl);rw[e] at hu;cases hu;obtain⟨t,rfl⟩:=ru;exact⟨t,by rw[Q5,Qg hi'];rfl⟩
 | pair ps _ hp hk=>
   refine zyg hl (by rw[hp];exact r.length) λi v p e ep=>?_;have hi:=(Qc.mp e).1;have hi':i<kvs.length:=by rw[r.length];exact hi
   obtain⟨u,hu,ru⟩:=Vals.get r (Qg hi');rw[e] at hu;cases hu;obtain⟨a,ea,hs⟩:=hk i _ p (Qg hi') ep;rw[ea] at ru;cases ru;obtain⟨its,rv,⟨o,e1,c,n,d⟩,_⟩:=I.tuple hs
   cases rv with
   | cons r1 rv=>
     cases rv with
     | cons r2 rv=>
       cases rv;obtain⟨t,rfl⟩:=r1;obtain⟨u,rfl⟩:=r2;exact⟨a,o,t,u,n,rfl,e1,c,d⟩
end
end L6
namespace L3
open PySem PySem.Spec
open PyProof.Rows hiding St
open L2
def Itv(K:Qa)(l:Addr)(n:Nat):It :=
 ⟨λi H=>i<n/\∃xs,SqL K H l xs/\xs.length=n,λi H x H'=>H'=H/\∀xs,SqL K H l xs->xs[n-1-i]? = some x,λi _=>n<=i⟩
theorem z0j{P:GJ}{w:GL}{K:Qa}{tg:Expr}(l it:Addr)(n:Nat):Turn P w K tg (Itv K l n) [it] it (λi h=>i<=n/\h.IsRevIter it l ((n:Int)-1-(i:Int))) where
 mem:=by simp
 obj:=λi h st b hb=>by
  have e:b=it:=by simpa using hb
  subst e;obtain⟨_,o,e,c,d⟩:=st;exact 11.1
 keep:=λi h h' st k=>⟨st.1,st.2.at λo e=>k it 0.3 o e⟩
 item:=by
  intro X hP hw hK hc i pins s σ H E I hf st hg;subst hP hw hK;obtain⟨hi,xs,hq,hx⟩:=hg;obtain⟨its,rv,p,hz⟩:=I.list hq;obtain⟨u,hu,ru⟩:=rv.get (i:=n-1-i) (x:=xs[n-1-i]' 0.0) (Qg 0.0);obtain⟨f0,f1,f2,f3,f4,f5⟩:=hf it 0.3;have e1:(n:Int)-1-(i:Int)=((n-1-i:Nat):Int):=by lia
  have st2:=st.2;rw[e1] at st2;refine wpAny_pyNext_rev_item st2 p.isList (x:=u) (by simpa using hu) λh' st' sb=>?_;have I1:Inv X pins σ H 3.9:=I.turned (t':=s.toks) (λb o hb e=>(sb.2 b hb).trans e) f0 f1 f3 f4 f5;obtain⟨o,e,c,d⟩:=id st';have e2:((n-1-i:Nat):Int)-1=(n:Int)-1-((i+1:Nat):Int):=by lia
  rw[e2] at st';exact⟨u,rfl,zi3 (s:=3.9) e c d 0.4 ⟨_,H,I1,ru,⟨rfl,λys hy=>by rw[I.list_inj hy hq];exact Qg 0.0⟩,⟨hi,st'⟩,λb hb=>(hf b hb).1⟩⟩
 done:=by
  intro X hP hw hK hc i pins s σ H E I hf st hg;subst hP hw hK;obtain⟨f0,f1,f2,f3,f4,f5⟩:=hf it 0.3;have hi:i=n:=VU st.1 hg;subst hi;have st2:=st.2;rw[show(i:Int)-1-(i:Int) = -1 by lia] at st2;exact wpAny_pyNext_rev_end 1e3 st2 λh' eb=>11.4
 self:=λ_ _ _ _ _ st h=>Mq st.2 h
def iRev(K:Qa)(t:TE):TI:=λσ H R=>t σ H λv H1=>∃a xs,v = .ref a/\SqL K H1 a xs/\R (Itv K a xs.length) H1
theorem zjh:GY "reversed" = some (.type "reversed"):=by decide +kernel
theorem zwy(hg:Gl X "reversed")(hm:X.mg "reversed" = none)(hl:PE X l tl)(hs:GI [l] X.env = [(false,eval l X.env)]:=by rfl):PI X tg (.Call (.Name "reversed" p) [l] [] pos) (iRev X.K tl):=by
 intro pins s σ H R I h;refine Call_ (zbt I hg hm zjh (Zl (thn ((zao hl za0 hs) pos pins s σ H (λvs H1=>match vs with | [v]=>∃a xs,v=V.ref a/\SqL X.K H1 a xs/\R (Itv X.K a xs.length) H1|_=>False) I h) λus s1 zz=>?_) hs rfl));obtain⟨vs,H1,I1,r1,q1⟩:=zz
 match vs,r1,q1 with
 | [_],.cons r .nil,⟨a,xs,ev,hq,q⟩=>
   subst ev;cases r;obtain⟨its,rv,pl,hz⟩:=I1.list hq;refine call_reversed_list pl.isList ?_;have el:((its.toArray.size:Nat):Int)-1=(xs.length:Int)-1:=by rw[rv.length];simp
   rw[el];have st:(s1.heap.push (revObj a ((xs.length:Int)-1))).IsRevIter s1.heap.objs.size a ((xs.length:Int)-1-((0:Nat):Int)):=⟨_,Qp _ rfl,rfl,by rw[show(xs.length:Int)-1-((0:Nat):Int)=(xs.length:Int)-1 by lia];rfl⟩;refine Mq (s:={ s1 with heap:=s1.heap.push (revObj a ((xs.length:Int)-1)) }) st ?_;refine⟨s1.heap.objs.size,[s1.heap.objs.size],_,_,H1,rfl,I1.kept (t':=s1.toks) λb o e=>Qb _ e,z0j a _ xs.length,⟨Qw _,st⟩,λb hb=>?_,q⟩;have e:b=s1.heap.objs.size:=by simpa using hb
   subst e;exact I1.fpOk (Qi _) 11.8
section
variable {K:Qa}{O:Ob}
def srcV(f:DE):DI:=λρ Q=>f ρ λr=>∃ds,r.d = .list ds/\Q r.isN ds.reverse
theorem z4u(h:5.1):SrcS K O (iRev K t) (srcV f):=λσ H ρ R Qd S hf k=>by
 refine h σ H ρ _ _ S hf λv H1 r st o1 zz=>?_;obtain⟨ds,e,q⟩:=zz;have i1:=o1.is S.ok S.p;rw[e] at i1
 cases i1 with
 | list f0 ha hs=>
   rename_i a xs
   have hlen:=hs.length;refine⟨a,xs,rfl,.of ha,k (Itv K a xs.length) H1 ds.reverse (λb=>b=a) r.isN ⟨st,λb hb=>by subst hb;exact⟨f0,_,ha⟩,λH2 i kb _ hi=>?_,λH2 i d kb t2 hd c=>?_⟩ (λz b hb=>?_) q⟩
   .show xs.length<=i;rw[Z4] at hi;lia
   .have hi:i<ds.reverse.length:=(Qc.mp hd).1;rw[Z4] at hi
    have hd2:ds[xs.length-1-i]? = some d:=by
     rw[JQ hi] at hd;rw[hlen];exact hd
    obtain⟨w,hw,iw⟩:=zi4 (O:=O) hs hd2 t2 c;have q2:SqL K H2 a xs:=.of (kb a _ rfl ha);refine⟨⟨by lia,xs,q2,rfl⟩,λx H3 zz=>?_⟩;obtain⟨e3,y⟩:=zz;subst e3;have:=y xs q2;rw[hw] at this;cases this;exact⟨Same.refl _,iw⟩
   .subst hb
    cases r with
    | o d=>cases z
    | n es=>
      obtain⟨a',xs',e',hn,_⟩:=o1;cases e';exact hn
end
section
variable {ι κ:Type}{P:GJ}{w:GL}{K:Qa}{mg:0.1}{base:Heap}{k:Nat}{X:0e1}{O:1e5}{a b tg:Expr}{fa fb:DE}{pos p:Pos}
theorem yd0(C:0.8)(B:7.1)(ha:1.6)(hg:∀i,Gl (X i) "reversed" := by intro i;rfl)(hs:∀i,GI [a] (X i).env = [4.2]:=by intro i;rfl):I3 K X O tg (.Call (.Name "reversed" p) [a] [] pos) (srcV fa) :=
 let ⟨_,q,d⟩:=ha;⟨iRev K _,λi=>by have h:=zwy (tg:=tg) (p:=p) (pos:=pos) (hg i) 24.0 (q i) (hs i);rw[C.hK] at h;exact h,λj=>z4u (d j)⟩
end
section
variable {X:Cx}
def zpp:V->List V->Hp->VK->Prop:=λx vs H Q=>∃(t y:Str) (i:Int),x = .str t/\vs = [.str y,.int i]/\Q (.int (G6 t y i)) H
theorem z1v:MtR X "str.find" zpp:=by
 intro pins s σ H x vs v us Q I rx rv h;obtain⟨t,y,i,rfl,rfl,q⟩:=h;obtain⟨tk,rfl⟩:=rx
 cases rv with
 | cons r1 rv=>
   cases rv with
   | cons r2 rv=>
     cases rv;obtain⟨t1,rfl⟩:=r1;obtain⟨t2,rfl⟩:=r2;exact SC.find3 17.8
end
section
variable {K:Qa}{O:Ob}
def zwa(fo:DE)(g:DA):DE:=λρ Q=>fo ρ λr0=>∃t,r0.d = .str t/\g ρ λds=>∃y i,ds = [.str y,.int i]/\Q (.o (.int (G6 t y i)))
theorem z0p{to:TE}(ho:ED K O to fo)(ha:AD K O ta g):ED K O (tBM K "str" zpp to ta) (zwa fo g):=λσ H ρ Q Qd S hf k=>by
 refine ho σ H ρ _ _ S hf λv H1 r0 s1 o1 zz=>?_;obtain⟨t,e0,q1⟩:=zz;have i0:=o1.is S.ok S.p;rw[e0] at i0;cases i0;refine 4.1;refine ha σ H1 ρ _ _ 5e4 q1 λvs H2 ds s2 is zz=>?_;obtain⟨y,i,e,q⟩:=zz;subst e
 cases is with
 | cons i1 is=>
   cases is with
   | cons i2 is=>
     cases is;cases i1;cases i2;exact⟨t,y,i,rfl,rfl,k _ H2 (.o _) 4.9 (Is.int _) q⟩
def zxp(n m:Nat):DS:=λDd ρ=>∃ds d,ρ[m]? = some (some (.own (ds ++ [d])))/\flat d=true/\Dd.nx ((ρ.set m 6.9).set n (some (.im d)))
theorem zig{d:GF}(hs:IsAll K F H xs (ds ++ [d])):∃v,xs[xs.length-1]? = some v/\Is K F H v d/\IsAll K F H xs.dropLast ds:=by
 have hl:=hs.length;rw[Qk] at hl;obtain⟨v,hv,iv⟩:=hs.get (i:=ds.length) (d:=d) 0.3;refine⟨v,by rw[hl];simpa using hv,iv,?_⟩;have:=zgl hs;rwa [Uj] at this
theorem zxy{n m:Nat}:SD K O (tAsg 6e2 (zau n)) (zxp n m):=λH₀ A σ H ρ D Dd r q P=>by
 obtain⟨ds,d,e,fl,q⟩:=q;obtain⟨v,hv,a,xs,rfl,ha,hl,hs⟩:=r.at_ m _ e;obtain⟨u,hu,iu,hs2⟩:=zig hs;refine⟨_,hv,.inl 8e8,a,xs,u,rfl,rfl,hl,hu,?_⟩;have r1:=r.change e hv ha hs2
 have ts:TupStay H (upd H a (.lst xs.dropLast)):=λb o ho hb=>by
  rw[zac]
  .exact hb
  .intro z;subst z;rw[hl] at hb;cases hb;obtain⟨ys,h1|⟨_,h1⟩⟩:=ho <;> cases h1
 exact P.nx _ _ _ _ (r1.setIm (Is.flat ts iu fl)) ((Frm.change ha).trans (.setIm 2.2)) q
def zxq(m:Nat):DS:=λDd ρ=>∃ds b,ρ[m]? = some (some (.own (ds ++ [.bool b])))/\ds.length<sizeLine/\Dd.nx (ρ.set m (some (.own (ds ++ [.bool (!b)]))))
theorem zyx{m:Nat}:SD K O (zbu (tBM K "list" zci (tVar m) (zal (zov 6e2) tNil))) (zxq m):=λH₀ A σ H ρ D Dd r q P=>by
 obtain⟨ds,b,e,hz,q⟩:=q;obtain⟨v,hv,a,xs,rfl,ha,hl,hs⟩:=r.at_ m _ e;obtain⟨u,hu,iu,hs2⟩:=zig hs;cases iu;refine⟨_,hv,.inl 8e8,?_⟩;refine⟨_,hv,.inl 8e8,a,xs,_,rfl,rfl,hl,hu,b,rfl,?_⟩;refine⟨a,xs.dropLast,.bl (!b),rfl,rfl,zah,by rw[hs2.length];exact hz,?_⟩;rw[zs4];exact P.nx A σ _ _ (r.change e hv ha (hs2.snoc (.bool _))) (.change ha) q
def pop2(n m:Nat):DS:=λDd ρ=>∃ds b c,ρ[m]? = some (some (.own (ds ++ [.bool c] ++ [.bool b])))/\n≠m/\Dd.nx ((ρ.set m 6.9).set n (some (.own [.bool b,.bool c])))
theorem z5w{n m:Nat}:SD K O (tAsg (tLst (zal 6e2 (zal 6e2 tNil))) (zau n)) (pop2 n m):=λH₀ A σ H ρ D Dd r q P=>by
 obtain⟨ds,b,c,e,hne,q⟩:=q;obtain⟨v,hv,a,xs,rfl,ha,hl,hs⟩:=r.at_ m _ e;obtain⟨u,hu,iu,hs2⟩:=zig hs;cases iu;obtain⟨u2,hu2,iu2,hs3⟩:=zig hs2;cases iu2;refine⟨_,hv,.inl 8e8,a,xs,_,rfl,rfl,hl,hu,?_⟩;refine⟨_,hv,.inl ⟨rfl,xs.dropLast,.of zah⟩,a,xs.dropLast,_,rfl,rfl,zah,hu2,?_⟩;rw[zs4];refine⟨by show 2<=sizeLine;rw[GK];decide,λp hp=>?_⟩;have r1:=r.change e hv ha hs3;have e1:(ρ.set m 6.9)[m]? = some 6.9:=QC (Qc.mp e).1;exact P.nx _ _ _ _ (r1.setOwn (.new r.ok hp _) hp zah (.cons 9e2 (.cons (.bool c) .nil)) rfl) ((Frm.change ha).trans (.setOwn (.new r.ok hp _) hp)) q
end
section
variable {X:Cx}
def ztm(K:Qa):V->List V->Hp->VK->Prop:=λx vs H Q=>∃l b xs zs,x = .ref l/\vs = [.ref b]/\H l=some 2.3/\SqT K H b zs/\xs.length+zs.length<=sizeLine/\Q .non (upd H l (.lst (xs++zs)))
theorem z5q:MtR X "list.extend" (ztm X.K):=by
 intro pins s σ H x vs v us Q I rx rv h;obtain⟨l,b,xs,zs,rfl,rfl,hH,hB,hz,q⟩:=h;cases rx;obtain⟨u,rfl,ru⟩:=rv.one;cases ru;obtain⟨z,its,n,r,hl,e⟩:=I.lstM hH;obtain⟨its2,r2,⟨o2,e2,c2,n2,d2⟩,z2⟩:=I.tuple hB;have hl2:=r2.length;have hsz:its.toArray.size+its2.toArray.size<=sizeLine:=by rw[Qu,Qu];lia
 have hlong:¬(!its.toArray.isEmpty && Z1 (its.toArray.size+its2.toArray.size))=true:=by
  rw[zj1 hsz,Vk];exact Qt
 refine Ta V5 ⟨_,e,rfl⟩ Ur ?_ (Ug _ _);unfold Builtin.«list.extend»;refine GD (TX (a:=(QP l,QP b)) rfl ?_);dsimp only;unfold Zm;refine GD (Tn (T := "tuple") ⟨o2,e2,c2⟩ ?_);rw[N3 0.3];refine GD (Mw e2 d2 ?_);refine GD (Mw e rfl ?_);rw[N4 hlong];refine GD (TV e rfl ?_ (by rw[Qu];lia) (by rw[Array.size_append];lia));refine GG 14.5;refine⟨.non,_,I.lset (its':=its++its2) hH e 0.3 (r.append r2) ?_,rfl,q⟩;rw[Qk];lia
end
section
variable {K:Qa}{O:Ob}
def extT(i:Nat)(f:DE):DS:=λDd ρ=>∃ds,ρ[i]? = some 6.9/\f ρ λr=>∃es,r.d = .tuple es/\flats es=true/\ds.length+es.length<=sizeLine/\Dd.nx (ρ.set i (some (.own (ds++es))))
theorem z6i{i:Nat}(h:5.1):SD K O (zbu (tBM K "list" (ztm K) (tVar i) (zal t tNil))) (extT i f):=λH₀ A σ H ρ D Dd r q P=>by
 obtain⟨ds,e,q⟩:=q;obtain⟨v,hv,a,xs,rfl,ha,hl,hs⟩:=r.at_ i _ e;refine⟨_,hv,?_⟩;refine⟨.inl 8e8,?_⟩;refine h σ H ρ _ _ r.seen q λw H1 x s1 o1 zz=>?_;obtain⟨es,ed,fl,hz,q1⟩:=zz;have r1:=r.stp s1;obtain⟨v1,hv1,a1,xs1,e1,ha1,hl1,hs1⟩:=r1.at_ i _ e;rw[hv] at hv1;cases hv1;cases e1;have iw:=o1.is r.ok r.p;rw[ed] at iw
 cases iw with
 | tuple h1 s2=>
   refine⟨a,_,xs1,_,rfl,rfl,hl1,h1,by rw[hs1.length,s2.length];exact hz,?_⟩;exact P.nx A σ _ _ (r1.change e hv ha (hs1.append (IsAll.flats 24.8 s2 fl))) ((Frm.stp s1).trans (.change ha)) q1
end
section
variable {K:Qa}{O:Ob}
def unpT(is:0.7)(f:DE):DS:=λDd ρ=>f ρ λr=>∃ds,r.d = .tuple ds/\flats ds=true/\gTD is ds ρ Dd.nx
theorem z6d{is:0.7}{n:Nat}(hn:is.length=n)(h:5.1)(hg:GRs K O tg is):SD K O (tAsg t (gTup K n tg)) (unpT is f):=λH₀ A σ H ρ D Dd r q P=>by
 refine h σ H ρ _ _ r.seen q λv H1 x s1 o1 zz=>?_;obtain⟨ds,e,fl,q1⟩:=zz;have r1:=r.stp s1;have iw:=o1.is r.ok r.p;rw[e] at iw
 cases iw with
 | tuple h1 s2=>
   refine⟨_,_,rfl,h1,by rw[s2.length,ztc q1];exact hn,?_⟩;exact hg H₀ A σ H1 ρ _ ds _ _ r1 fl (IsAll.flats 24.8 s2 fl) q1 λA' σ' ρ' r' f' q'=>P.nx A' σ' H1 ρ' r' ((Frm.stp s1).trans f') q'
end
section
variable {ι κ:Type}{P:GJ}{w:GL}{K:Qa}{mg:0.1}{base:Heap}{k:Nat}{X:0e1}{O:1e5}{a b c:Expr}{fa fb:DE}{pos p:Pos}{es:8.6}{ga:DA}
theorem z5h{apos:Pos}(C:0.8)(ho:1.6)(ha:A3 K X O [b,c] ga)(hbase:∀i,GM a "find" (X i).env (eval a (X i).env)=eval a (X i).env:=by intro i;rfl)
 (hfew:∀i,((Tg pos (GI [b,c] (X i).env)).all 20.7 && (TC pos 24.9).all 7.4 && decide (([b,c]:List Expr).length+([]:List Td).length+4.0<30))=true:=by intro i;rfl)
 (hline:(apos.endLine == pos.line)=true:=by rfl) (hs:∀i,GI [b,c] (X i).env=1e4::GI [c] (X i).env:=by intro i;rfl) (hpl:∀i,(Tg pos (GI [c] (X i).env)).any (·.1)=false:=by intro i;rfl):E3 K X O (.Call (.Attribute a "find" apos) [b,c] [] pos) (zwa fa ga) :=
 let ⟨_,p1,d1⟩:=ho;let ⟨_,p2,d2⟩:=ha;⟨tBM K "str" zpp _ _,λi=>by
  have h:=zc3 (apos:=apos) (cpos:=pos) Jg PySem.F.slot_str_find PySem.F.type_str_find (z1v (X:=X i)) (p1 i) (p2 i) 18.3 (hfew i) hline (hs i) (hpl i);rw[C.hK] at h
  exact h,λj=>z0p (d1 j) (d2 j)⟩
theorem zio{X:Cx}{n:Nat}{x:Str}{px apos cpos:Pos}(hN:X.N[n]? = some x)(hv:Vis X.env.scope x)(hd:1.5)(hcd:6.4)(hbase:GM 1.8 "pop" X.env (eval 1.8 X.env)=eval 1.8 X.env)(hline:4.4):
 PE X (.Call (.Attribute 1.8 "pop" apos) [] [] cpos) (tBM0 X.K "list" rPop (tVar n)):=zq5 (apos:=apos) (cpos:=cpos) QU JR JS (zlx (X:=X)) (zaj (pos:=px) hN hv hd hcd) hbase hline
theorem zp4(n m:Nat){apos cpos:Pos}(C:0.8)(hM:13.0:=by intro i;rfl)(hv:7e9:=by intro i;first|exact Or.inl rfl|exact Or.inr 8.4|exact Or.inr 8.3)(hd:0e0:=by decide)(hcd:2e0:=by decide)
 (hbase:∀i,GM 9.8 "pop" (X i).env (eval 9.8 (X i).env)=eval 9.8 (X i).env:=by intro i;rfl) (hline:4.4:=by rfl)
 (hN:0e7:=by intro i;exact N7 1.9) (hi:3.1:=by intro i;rfl) (hx:9.6:=by intro i;first|exact Or.inl rfl|exact Or.inr rfl)
 (hs:∀i,GV (.Call 11.7 [] [] cpos) 5e3 pos.line (X i).env=pure false:=by intro i;rfl) (hf:5.7:=by intro i;first|exact .inl rfl|exact .inr rfl) :
 S3 K X O (.Assign [.Name x px] (.Call 11.7 [] [] cpos) pos) (zxp n m) :=
 ⟨_,λi=>by
  have h:=zio (X:=X i) (px:=py) (apos:=apos) (cpos:=cpos) (hM i) (hv i) hd hcd 18.3 hline;rw[C.hK] at h
  exact zbm (hN i) (hi i) (hx i) h (hs i) (hf i),λj=>zxy⟩
theorem zzn(m:Nat)(C:0.8)(hM:13.0:=by intro i;rfl)(hv:7e9:=by intro i;first|exact Or.inl rfl|exact Or.inr 8.4|exact Or.inr 8.3)(hd:0e0:=by decide)(hcd:2e0:=by decide)
 (hbase:∀i,GM 8e4 "append" (X i).env (eval 8e4 (X i).env)=eval 8e4 (X i).env:=by intro i;rfl) (hbase2:∀i,GM (.Name y p3) "pop" (X i).env (eval (.Name y p3) (X i).env)=eval (.Name y p3) (X i).env:=by intro i;rfl)
 (hfew:∀i,((Tg p7 (GI [.UnaryOp .Not 4e9 p6] (X i).env)).all 20.7 && (TC p7 24.9).all 7.4 && decide (([.UnaryOp .Not 4e9 p6]:List Expr).length+([]:List Td).length+4.0<30))=true:=by intro i;rfl)
 (hline:(p2.endLine == p7.line)=true:=by rfl) (hline2:(p4.endLine == p5.line)=true:=by rfl) (hs:∀i,GI [.UnaryOp .Not 4e9 p6] (X i).env = [(false,eval (.UnaryOp .Not 4e9 p6) (X i).env)]:=by intro i;rfl)
 (hsw:∀i,GV (.Call (.Attribute 8e4 "append" p2) [.UnaryOp .Not 4e9 p6] [] p7) none pos.line (X i).env=pure false:=by intro i;rfl) :
 S3 K X O (.Expr (.Call (.Attribute 8e4 "append" p2) [.UnaryOp .Not 4e9 p6] [] p7) pos) (zxq m) :=
 ⟨zbu (tBM K "list" zci (tVar m) (zal (zov 6e2) tNil)),λi=>by
  have h0:=zio (X:=X i) (px:=p3) (apos:=p4) (cpos:=p5) (hM i) (hv i) hd hcd (hbase2 i) hline2;have h:=zc3 (apos:=p2) (cpos:=p7) QU Jy Jz (zeh (X:=X i)) (zaj (pos:=p1) (hM i) (hv i) hd hcd) (zao (zvt (pos:=p6) h0) za0 (hs i)) 18.3 (hfew i) hline (hs i);rw[C.hK] at h
  exact zdc h (hsw i),λj=>zyx⟩
theorem yad(n m:Nat)(C:0.8)(hM:13.0:=by intro i;rfl)(hv:7e9:=by intro i;first|exact Or.inl rfl|exact Or.inr 8.4|exact Or.inr 8.3)(hd:0e0:=by decide)(hcd:2e0:=by decide)
 (hbase:∀i,GM 8e4 "pop" (X i).env (eval 8e4 (X i).env)=eval 8e4 (X i).env:=by intro i;rfl) (hbase2:∀i,GM (.Name y p4) "pop" (X i).env (eval (.Name y p4) (X i).env)=eval (.Name y p4) (X i).env:=by intro i;rfl) (hline:(p2.endLine == p3.line)=true:=by rfl) (hline2:(p5.endLine == p6.line)=true:=by rfl)
 (hs1:∀i,GI [.Call (.Attribute 8e4 "pop" p2) [] [] p3,.Call 8e2 [] [] p6] (X i).env=(false,eval (.Call (.Attribute 8e4 "pop" p2) [] [] p3) (X i).env)::GI [.Call 8e2 [] [] p6] (X i).env:=by intro i;rfl)
 (hs2:∀i,GI [.Call 8e2 [] [] p6] (X i).env = [(false,eval (.Call 8e2 [] [] p6) (X i).env)]:=by intro i;rfl)
 (hN:0e7:=by intro i;exact N7 1.9) (hi:3.1:=by intro i;rfl) (hx:9.6:=by intro i;first|exact Or.inl rfl|exact Or.inr rfl)
 (hs:∀i,GV (.List [.Call (.Attribute 8e4 "pop" p2) [] [] p3,.Call 8e2 [] [] p6] p0) 5e3 pos.line (X i).env=pure false:=by intro i;rfl) (hf:5.7:=by intro i;first|exact .inl rfl|exact .inr rfl) :
 S3 K X O (.Assign [.Name x px] (.List [.Call (.Attribute 8e4 "pop" p2) [] [] p3,.Call 8e2 [] [] p6] p0) pos) (pop2 n m) :=
 ⟨_,λi=>by
  have h1:=zio (X:=X i) (px:=p1) (apos:=p2) (cpos:=p3) (hM i) (hv i) hd hcd 18.3 hline;have h2:=zio (X:=X i) (px:=p4) (apos:=p5) (cpos:=p6) (hM i) (hv i) hd hcd (hbase2 i) hline2;rw[C.hK] at h1 h2
  exact zbm (hN i) (hi i) (hx i) (zw1 (zao h1 (zao h2 za0 (hs2 i)) (hs1 i))) (hs i) (hf i),λj=>z5w⟩
theorem zww(n:Nat){apos cpos:Pos}(C:0.8)(hb:3.7)(hN:3.1:=by intro i;rfl)(hv:9.4:=by intro i;first|exact Or.inl rfl|exact Or.inr 8.4|exact Or.inr 8.3)(hd:1.5:=by decide)(hcd:6.4:=by decide)
 (hbase:∀i,GM 1.8 "extend" (X i).env 27.5=eval 1.8 (X i).env:=by intro i;rfl)
 (hfew:3e5:=by intro i;rfl)
 (hline:4.4:=by rfl) (hs:10.6:=by intro i;rfl) (hsw:∀i,GV 15.2 none pos.line (X i).env=pure false:=by intro i;rfl) :
 S3 K X O (.Expr 15.2 pos) (extT n fb):=let ⟨_,p2,d2⟩:=hb;
 ⟨zbu (tBM K "list" (ztm K) (tVar n) (zal _ tNil)),λi=>by
  have h:=zc3 (apos:=apos) (cpos:=cpos) QU V5 V6 (z5q (X:=X i)) 12.0 14.8 18.3 (hfew i) hline (hs i);rw[C.hK] at h
  exact zdc h (hsw i),λj=>z6i (d2 j)⟩
theorem z9z{h n:Nat}{is:0.7}{j:Nat}(C:0.8)(ha:1.6)(hr:Gs3 K X h es is)(hn:is.length=n:=by rfl)(hn2:∀i,(TJ es (X i).env).length=n:=by intro i;rfl)(hst:∀i,(TJ es (X i).env).findIdx? (·.1)=none:=by intro i;rfl)
 (hs:∀i,swapsWithSole [.Tuple es j tp] a pos.line (X i).env=pure false:=by intro i;rfl) (hw:∀i,swappedStores [.Tuple es j tp] a (X i).env=pure none:=by intro i;rfl) (h1:∀i,(TJ [.Tuple es j tp] (X i).env).map (·.2) = [MS (.Tuple es j tp) (X i).env]:=by intro i;rfl) :
 S3 K X O (.Assign [.Tuple es j tp] a pos) (unpT is fa):=let ⟨_,p,d1,d2,o,m⟩:=hr;let ⟨_,q,d⟩:=ha;
 ⟨tAsg _ (gTup K n _),λi=>by have z:=ybf (pos:=tp) (k:=j) 18.7 (p i) (hn2 i) (hst i);rw[C.hK] at z;exact yak (q i) z (hs i) (hw i) (h1 i),λjj=>z6d hn (d jj) (d2 (O jj))⟩
end
end L3
namespace SX
open PySem PySem.Spec PyProof.Rows
abbrev Es:=Array (Int×GE)
def keyE(e:Int×GE):Str:=strOf e.2
def keys(es:Es):List Str:=es.toList.map keyE
def byT(w:GL):Bool:=w.params.followText "set-order"
structure Sx(w:GL)(h:Heap)(a:Addr)(es:Es)(ep:Nat)(t:TR):Prop where
 at_:∃o,h.get? a=some o/\o.ExactSet/\o.data = .set es ep t
 lt:es.size<scanBound
 fit:t.fits es.size=true
 led:t.led = !byT w
 pl:1<es.size->t.plain=false
structure Tx(P:GJ)(w:GL)(h:Heap)(a:Addr)(es:Es)(ep:Nat)(t:TR):Prop extends Sx w h a es ep t where
 el:ElemsOf (ZK P w) es.toList
 nd:(keys es).Nodup
theorem z4j(t:TR)(es:Es)(h:Int)(x:GE):(layNew t es h x).2.1.led=t.led:=by
 unfold layNew
 cases t.freeSlot h with
 | none=>rfl
 | some p=>
   obtain⟨j,d⟩:=p;show((t.put j).1.orStandIn _).led=t.led;unfold SetTable.orStandIn
   split <;> rfl
theorem z5p(t:TR)(es:Es)(n:Nat):(MB t es n).2.1.led=t.led/\(t.plain=false->(MB t es n).2.1.plain=false):=by
 unfold MB
 cases e:t.relaid (es.map (·.1)) n with
 | none=>exact⟨rfl,λ_=>rfl⟩
 | some p=>
   obtain⟨t',ord⟩:=p
   have:t'.led=t.led/\t'.plain=t.plain:=by
    unfold SetTable.relaid SetTable.laid at e
    cases q:SetTable.layClean (SetTable.sizeAbove n-1) (es.map (·.1)) with
    | none=>rw[q] at e;cases e
    | some o=>rw[q] at e;cases e;exact⟨rfl,rfl⟩
   dsimp only
   split
   .exact⟨this.1,λh=>this.2.trans h⟩
   .exact⟨rfl,λ_=>rfl⟩
section
variable {P:GJ}{w:GL}{A:GN}{E:1.7}{s:GH}
theorem zzb(h:∃k,(ZK P w).is k e.2=true/\e.1=(ZK P w).hash k)(k:Str):(ZK P w).is k e.2=true↔keyE e=k:=by
 obtain⟨k',hk,_⟩:=h;obtain⟨i,v⟩:=e;obtain⟨t,ev⟩:=Va hk;subst ev;show JM k (.str k' t)=true↔k'=k;constructor
 .intro h;exact(ZK P w).inj (.str k' t) _ _ hk h
 .rintro rfl;exact hk
theorem Tx.put{ep:Nat}(S:Tx P w s.heap a es ep t)(el:ElemsOf (ZK P w) es'.toList)(nd:(keys es').Nodup)(lt:es'.size<scanBound)(fit:t'.fits es'.size=true)(led:t'.led = !byT w)(pl:t'.plain=false)
 (h:∀h',ZV a s.heap h'->Tx P w h' a es' (ep+1) t'->Q () 3.9):wpAny 2.5 A (storeSet a es' t') Q E s:=by
 obtain⟨o,ho,hx,hd⟩:=S.at_;refine wpAny_storeSet_of ho hd (h _ (.update ..) ⟨⟨⟨{ o with data:=.set es' (ep+1) t' },?_,hx,rfl⟩,lt,fit,led,λ_=>pl⟩,el,nd⟩) (Me lt);have:=Z5 (Obj.putSet es' t') ho (by rw[putSet_of es' t' hd];rfl);rw[putSet_of es' t' hd] at this;exact this
theorem zy6{es es':Es}(p:es'.toList.Perm es.toList):es'.size=es.size:=by simpa using p.length_eq
theorem znj(p:es'.toList.Perm es.toList):(keys es').Perm (keys es):=p.map _
theorem Tx.add{ep:Nat}{tk:Tok}(S:Tx P w s.heap a es ep t)(hr:es.size+1<scanBound)
 (h:∀b h' es' ep' t',ZV a s.heap h'->Tx P w h' a es' ep' t'->(∀k,k∈keys es'↔k∈keys es\/k=x)->es'.size<=es.size+1->Q b 3.9) :
 wpAny 2.5 A (setAddHashed a (.str x tk) (Mv w x)) Q E s:=by
 have hk:(ZK P w).is x (.str x tk)=true:=by show JM x (.str x tk)=true;simp[JM]
 obtain⟨o,ho,hx,hd⟩:=S.at_
 have gw:∀(b:Bool) (s₁:GH) (Q':Unit->GH->Prop),Q' () s₁->wpAny 2.5 A (match b with|true=>rule "set.scan.the-table-gave-way" | false=>pure ()) Q' E s₁:=λb s₁ Q' q=>by
  cases b
  .exact GG q
  .exact Tz q
 unfold setAddHashed setAddHashedIn;refine GU (GD (wpAny_setState_of ho hd S.fit ?_));dsimp only;rw[N3 (byScan_of rfl S.lt S.el)];unfold setAddByScan;refine GD (GD (Tz (GD (wpAny_setScan_of (knd:=ZK P w) hk ho hd S.fit S.el ?_))))
 cases hf:es.toList.findIdx? (λe=>(ZK P w).is x e.2) with
 | some j=>
   obtain⟨hj,hp,_⟩:=List.findIdx?_eq_some_iff_getElem.mp hf;have hm:x∈keys es:=QA.mpr ⟨_,QQ hj,(zzb (S.el _ (QQ hj)).1 x).mp hp⟩;refine GG 0e6;exact h false s.heap es ep t (.refl ..) S (λk=>⟨.inl,λz=>z.elim id λz=>z ▸ hm⟩) (ZG _)
 | none=>
   have hm:x ∉ keys es:=λhm=>by
    obtain⟨e,he,hk'⟩:=QA.mp hm;have:=List.findIdx?_eq_none_iff.mp hf e he;rw[(zzb (S.el e he).1 x).mpr hk'] at this;cases this
   have hp:=layNew_perm t es (Mv w x) (.str x tk);have hfit:=layNew_fits t es (Mv w x) (.str x tk);have hled:=z4j t es (Mv w x) (.str x tk);generalize layNew t es (Mv w x) (VB x tk)=L at hp hfit hled ⊢;obtain⟨e1,t1,wd,gv⟩:=L;dsimp only at hp hfit hled ⊢;rw[UO] at hp;have el1:ElemsOf (ZK P w) e1.toList:=(S.el.push (k:=x) (x:=.str x tk) hk rfl).perm hp
   have kp:(keys e1).Perm (keys es ++ [x]):=by
    have:=hp.map keyE;rw[QG] at this;exact this
   have nd1:(keys e1).Nodup:=kp.nodup_iff.mpr (ZO.mpr ⟨S.nd,0.3,λa ha b hb=>by
    rw[Qo] at hb;subst hb
    exact λz=>hm (z ▸ ha)⟩)
   have mem1:∀k,k∈keys e1↔k∈keys es\/k=x:=λk=>by rw[kp.mem_iff,Qx,Qo]
   have sz1:e1.size=es.size+1:=by simpa using hp.length_eq
   have lt1:e1.size<scanBound:=by lia
   refine GD (gw _ _ _ ?_)
   have fin:∀t2:TR,t2.fits e1.size=true->t2.led=t.led->t2.plain=false->wpAny 2.5 A (do
    storeSet a e1 t2
    if(!wd && t2.tooFull)=true then do
        (match (MB t2 e1 (J9 e1.size)).2.2 with|true=>rule "set.scan.the-table-gave-way" | false=>pure ())
        storeSet a (MB t2 e1 (J9 e1.size)).1 (MB t2 e1 (J9 e1.size)).2.1
        pure (some true)
     else pure (some true)) (λr s₁=>wpAny 2.5 A (match r with|some b=>pure b|none=>setAddHashedIn a (.str x tk) (Mv w x) 99999) Q E s₁) E s:=λt2 f2 l2 p2=>by
    refine GD (S.put el1 nd1 lt1 f2 (l2.trans S.led) p2 λh1 sb1 S1=>?_)
    cases hw:(!wd && t2.tooFull) with
    | false=>exact GG (GG (h true h1 e1 _ t2 sb1 S1 mem1 (Y5 sz1)))
    | true=>
      have rp:=relayAll_perm t2 e1 (J9 e1.size);have rf:=relayAll_fits t2 e1 (J9 e1.size);have rl:=z5p t2 e1 (J9 e1.size);generalize MB t2 e1 (J9 e1.size)=R at rp rf rl ⊢;obtain⟨e2,t3,g2⟩:=R;dsimp only at rp rf rl ⊢;refine GD (gw _ _ _ ?_);have z2:=zy6 rp;refine GD (S1.put (s:={ s with heap:=h1 }) (el1.perm rp) ((znj rp).nodup_iff.mpr nd1) 0.0 rf (rl.1.trans (l2.trans S.led)) (rl.2 p2) λh2 sb2 S2=>?_);exact GG (GG (h true h2 e2 _ t3 (sb1.trans sb2) S2 (λk=>by rw[(znj rp).mem_iff];exact mem1 k) 0.0))
   split
   .rename_i hpl
    refine GD ?_;rw[hashByValue_scannable 8 (x:=.str x tk) rfl];refine GG ?_;exact fin { t1 with plain:=false } (SetTable.fits_plain_off hfit) hled rfl
   .rename_i hpl
    refine GD 0e6;exact fin t1 hfit hled (by simpa using hpl)
end
end SX
namespace SX
open PySem PySem.Spec PyProof.Rows
section
variable {P:GJ}{w:GL}{A:GN}{R:Nz->GH->Prop}{I:Addr}{fp wr:3e9}{G:Array Ng->Array Ng->Prop}{n:Nat}{Pv:Nat->GE->Prop}{St:Nat->GH->Prop}
theorem Sx.keep{ep:Nat}(S:Sx w h a es ep t)(k:∀o,h.get? a=some o->h'.get? a=some o):Sx w h' a es ep t :=
 { S with at_:=let ⟨o,e,r⟩:=S.at_;⟨o,k o e,r⟩ }
theorem Tx.keep{ep:Nat}(S:Tx P w h a es ep t)(k:∀o,h.get? a=some o->h'.get? a=some o):Tx P w h' a es ep t :=
 ⟨S.toSx.keep k,S.el,S.nd⟩
theorem z7f(W:WalksS P w A.in1 I fp wr G n Pv St)(S:Addr)(hS:S ∉ fp)(val:Nat->Str)(hval:∀i v,Pv i v->∃t,v = .str (val i) t)(hb:n+1<scanBound):
 ∀(m i:Nat) (s:GH) (es:Es) (ep:Nat) (t:TR),n-i=m->i<=n->St i s->Tx P w s.heap S es ep t->(∀x,x∈keys es↔∃j,j<i/\val j=x)->es.size<=i ->
   (∀s' es' ep' t',Moved (S::wr) G s s'->Tx P w s'.heap S es' ep' t'->(∀x,x∈keys es'↔∃j,j<n/\val j=x)->R (.ok (.ret .none)) s') ->
   Ma 2.5 A (.builtin "set.update.loop" ⟨[.ref S,.ref I],[]⟩) R s:=by
 have nw:S ∉ wr:=λz=>hS (W.sub _ z);have up:∀b∈wr,b∈S::wr:=λb z=>Qm _ z;intro m
 induction m with
 | zero=>
   intro i s es ep t hm hi st T hk _ k;obtain rfl:i=n:=by lia
   refine Tb VE ?_;rw[Zb Yy _];refine GD (W.done s _ _ st λs' mv=>GG ?_);exact k s' es ep t (mv.mono up) (T.keep λo e=>mv.heap S o nw e) hk
 | succ m ih=>
   intro i s es ep t hm hi st T hk hz k;have hlt:i<n:=by lia
   refine Tb VE ?_;rw[Zb Yy _];refine GD (W.item i s _ _ hlt st λv s' pv st' mv=>?_);obtain⟨tk,rfl⟩:=hval i v pv;have T1:Tx P w s'.heap S es ep t:=T.keep λo e=>mv.heap S o nw e;refine GD (m:=holding [VB (val i) tk] (setAdd S (.str (val i) tk))) (GU ?_);unfold setAdd;refine GU (GD ((ZK P w).pyHash (k:=val i) (by show JM (val i) (.str (val i) tk)=true;simp[JM]) ?_));refine Tx.add (s:={ s' with toks:=s'.toks+1 }) (x:=val i) T1 0.0 λb h' es' ep' t' sb T2 hk' hz'=>?_;refine GG ⟨Tk Yy _,ih (i+1) _ es' ep' t' 0.0 hlt (W.frame _ s' _ _ st' (ZG _) λb hb o e=>?_) T2 (λx=>?_) 0.0 λs'' e2 p2 t2 mv2 T3 hk3=>?_⟩
   .rw[sb.2 b (λz:b=S=>hS (z ▸ hb))];exact e
   .rw[hk',hk];constructor
    .rintro(⟨j,h1,h2⟩|rfl)
     .exact⟨j,by lia,h2⟩
     .exact⟨i,by lia,rfl⟩
    .rintro⟨j,h1,h2⟩
     by_cases hj:j=i
     .subst hj;exact .inr h2.symm
     .exact .inl ⟨j,by lia,h2⟩
   .refine k s'' e2 p2 t2 (.trans W.gtrans ((mv.mono up).then_heap (ZG _) λb o hb e=>?_) mv2) T3 hk3;rw[sb.2 b (λz:b=S=>hb (z ▸ Q0))];exact e
end
section
variable {P:GJ}{w:GL}{A:GN}{E:1.7}{s:GH}
abbrev eObj(w:GL):Obj:={ cls:=.type "set",dict:=none,data:=.set #[] 0 (.fresh 0 0 (!byT w)) }
theorem ycy(e:h.get? a=some (eObj w)):Tx P w h a #[] 0 (.fresh 0 0 (!byT w)) :=
 ⟨⟨⟨_,e,⟨rfl,rfl,rfl⟩,rfl⟩,by decide,rfl,rfl,λz=>absurd z 0.4⟩,λ_ z=>by simp at z,by simp[keys]⟩
theorem z6c(v:GE)(h:Q 2.7 21.0):
 Ma 2.5 A (.call (.builtin "set.__new__") ⟨[.type "set",v],[]⟩) (wants Q E) s:=by
 refine MO ?_;refine GD (m:=checkBuiltinCall "set.__new__" ⟨[.type "set",v],[]⟩) (TX (F.newCall_set_1 v) (GG ⟨Tk F.plain_set_new _,Tb F.entry_set_new ?_⟩));rw[Zb F.plain_set_new _];unfold Builtin.«set.__new__» Gq;have hsub:=sub_set_self;obtain⟨hp,g,d,tk,os⟩:=s;dsimp only
 wp_walk
 refine MC 0e6;dsimp only;simp only[newObj];refine GD (Nt 0e6);exact GG h
end
end SX
namespace SX
open PySem PySem.Spec PyProof.Rows
section
variable {P:GJ}{w:GL}{A:GN}{E:1.7}{s:GH}
abbrev Ext(h h':Heap):Prop:=∀b o,h.get? b=some o->h'.get? b=some o
def Src(P:GJ)(w:GL)(h:Heap)(v:GE)(n:Nat)(Pv:Nat->GE->Prop):Prop :=
 ∀(A:GN) (E:1.7) (s₁:GH) (Q:1.7),A.handled=none->Ext h s₁.heap ->
   (∀I h' fp St,(∀A':GN,A'.handled=none->Walks P w A' I fp [I] n Pv St)->St 0 h'->Ext s₁.heap h'->(∀b∈fp,b<h.objs.size\/s₁.heap.objs.size<=b)->s₁.heap.objs.size<=I->Q (.ref I) { s₁ with heap:=h' }) ->
   wpAny 2.5 A (MJ v) Q E s₁
theorem znu{n:Nat}{val:Nat->Str}(hh:7.3)(hT:∀s₁:GH,Ext s.heap s₁.heap->s₁.TypeIs v T)
 (h1:isSubtype (.type T) (.type "set")=pure false) (h2:isSubtype (.type T) (.type "frozenset")=pure false) (h3:(JB T == JB "dict")=false) (src:Src P w s.heap v n Pv)
 (hval:∀i v,Pv i v->∃t,v = .str (val i) t) (hb:n+1<scanBound)
 (k:∀h' tk es ep t,Tx P w h' s.heap.objs.size es ep t->(∀x,x∈keys es↔∃j,j<n/\val j=x)->Ext s.heap h'->Q 2.7 3.5) :
 wpAny 2.5 A (call (.type "set") [v]) Q E s:=by
 obtain⟨c,tl,hmro⟩:=JH.mro;have hmade:=JH.made;have hsub:=JH.sub;refine Mj (MO ?_);show wpAny _ _ (callAny (.type "set") _) _ _ _;refine GG ⟨Vl _ 0.2,Tb F.entry_type_call ?_⟩;rw[Around.under_plain (weight_type_call_type "set" [v] []) rfl];have c1:=JH.notType;have c2:=JH.canCreate;have c3:=F.typeCall_set_1 v
 repeat (any_goals (first|assumption|wp_step))
 refine TH (z6c v (E:=E) (Q:=λr s₁=>r = .ref s.heap.objs.size/\s₁ = 21.0) ⟨rfl,rfl⟩) λr s₁ hr=>?_
 cases r with
 | error e=>exact hr
 | ok fl=>
   cases fl with
   | ret obj=>
     obtain⟨rfl,rfl⟩:=hr;have eS:(s.heap.push (eObj w)).get? s.heap.objs.size=some (eObj w):=Qp _ rfl;have hS:V7 21.0 2.7 "set" := ⟨_,eS,rfl⟩;have c4:=JH.init.lookup;have c5:=JH.init.bind 2.7
     repeat (any_goals (first|assumption|wp_step))
     refine TH (Mo (R:=wants (λr s₂=>r = .none/\∃h' tk es ep t,s₂ = 3.5/\Tx P w h' s.heap.objs.size es ep t/\(∀x,x∈keys es↔∃j,j<n/\val j=x)/\Ext s.heap h') E) JH.init.plain F.entry_set_init (check_set_init_1 hS ?_)) λr₂ s₂ hr₂=>?_
     .have e0:Ext s.heap (s.heap.push (eObj w)):=λb o e=>Qb _ e;have hTv:=hT 21.0 e0;unfold Builtin.«set.__init__» noKeywords Gi;generalize hPI:MJ=PI
      wp_walk
      subst hPI;have lt0:s.heap.objs.size<(s.heap.push (eObj w)).objs.size:=by rw[Zh];exact ZR _
      refine src _ _ _ _ 6e1 e0 λI h' fp St W st ex fpb hI=>?_;refine GD (M1 ?_)
      have nS:s.heap.objs.size ∉ fp:=λz=>by
       rcases fpb _ z with y|y
       .exact Zi _ y
       .exact absurd lt0 (Yr.mpr y)
      refine z7f (W _ 6e1).toS s.heap.objs.size nS val hval hb n 0 _ #[] 0 _ rfl (Qw _) st (ycy (ex _ _ eS)) (λx=>by simp[keys]) (Qi _) λs' es ep t mv T hk=>?_;obtain⟨h2,g2,d2,tk2,os2⟩:=s';obtain rfl:g2=s.gens:=mv.gens;obtain rfl:d2=s.drawn:=mv.drawn;obtain rfl:os2=s.os:=mv.os;show wpAny _ _ _ _ _ _;refine GG (GG ⟨rfl,h2,tk2,es,ep,t,rfl,T,hk,λb o e=>mv.heap b o (λz=>?_) (ex b o (e0 b o e))⟩);have hbl:=Qs e;rcases Q2.mp z with z|z
      .exact Qz hbl z
      .rw[Qo.mp z] at hbl;exact absurd hbl (Yr.mpr (QF (JC lt0) hI))
     .cases r₂ with
      | error e=>exact hr₂
      | ok fl₂=>
        cases fl₂ with
        | ret r=>
          obtain⟨rfl,h',tk,es,ep,t,rfl,T,hk,ex⟩:=hr₂
          repeat (any_goals (first|assumption|wp_step))
          exact k _ _ _ _ _ T hk ex
        | _=>exact hr₂.elim
   | _=>exact hr.elim
end
end SX
namespace SX
open PySem PySem.Spec PyProof.Rows
theorem nx_slot:Slot "set_iterator" "__next__" "set_iterator.__next__" := by
 refine Slot.of (owner := "set_iterator") (n := "__next__") ?_ 0.2 0.2 0.2 ?_ ?_
 .rw[Tc,GO];kernel_rfl
 .first
   | exact .inl 0.2
   | exact .inr 0.2
 .rw[Te];kernel_rfl
theorem zsw:Slot "set_iterator" "__iter__" "set_iterator.__iter__" := by
 refine Slot.of (owner := "set_iterator") (n := "__iter__") ?_ 0.2 0.2 0.2 ?_ ?_
 .rw[Tc,GO];kernel_rfl
 .first
   | exact .inl 0.2
   | exact .inr 0.2
 .rw[Te];kernel_rfl
theorem zpi:M9 table "set_iterator.__next__" = some Builtin.«set_iterator.__next__»:=by
 refine Mi ?_;kernel_rfl
theorem zz4:M9 table "set_iterator.__iter__" = some Builtin.«dict_keyiterator.__iter__»:=by
 refine MT (id' := "dict_keyiterator.__iter__") ?_ rfl ?_ ?_
 .kernel_rfl
 .decide +kernel
 .kernel_rfl
theorem zl5:M9 table "set.__iter__" = some Builtin.«frozenset.__iter__»:=by
 refine MT (id' := "frozenset.__iter__") ?_ rfl ?_ ?_
 .kernel_rfl
 .decide +kernel
 .kernel_rfl
theorem zpj:Gj.lookup (G2 ['r','o','t','a','r','e','t','i','_','t','e','s'].reverse)=some Manifest.sig_set_iterator:=by kernel_rfl
theorem zsr(a:GE):MG "set_iterator.__next__" ⟨[a],[]⟩:=by
 unfold MG;rw[Ml (id := "set_iterator.__next__") (n:=['_','_','t','x','e','n','_','_']) (o:=['r','o','t','a','r','e','t','i','_','t','e','s']) 1.9 zpj];kernel_rfl
theorem z5n(a:GE):MG "set_iterator.__iter__" ⟨[a],[]⟩:=by
 unfold MG;rw[Ml (id := "set_iterator.__iter__") (n:=['_','_','r','e','t','i','_','_']) (o:=['r','o','t','a','r','e','t','i','_','t','e','s']) 1.9 zpj];kernel_rfl
theorem zg6{α:Type}:∀{l:6.5} {i:Nat} (h:i<l.length),(l[i]::l.eraseIdx i).Perm l
 | [],_,h=>absurd h (Gk _)
 | x::l,0,_=>.refl _
 | x::l,i+1,h=>(Go x _ _).trans ((zg6 (l:=l) (i:=i) (Nat.lt_of_succ_lt_succ h)).cons x)
theorem zs9{α:Type}(f:18.6):∀(m k:Nat) (l:6.5) (out:Array α),l.length=m->(UP f m k l out).toList.Perm (out.toList++l)
 | 0,k,l,out,h=>by
   obtain rfl:l = []:=by cases l with|nil=>rfl|cons _ _=>simp at h
   simp[UP]
 | m+1,k,l,out,h=>by
   have hi:f k % l.length<l.length:=Nat.mod_lt _ 0.0;unfold UP;rw[Qg hi];refine(zs9 f m (k+1) (l.eraseIdx (f k % l.length)) (out.push l[f k % l.length]) (by rw[YW];simp[hi];lia)).trans ?_;rw[UO,Q3];refine Ua _ ?_;exact zg6 hi
theorem zvg{α:Type}(f:18.6)(xs:Array α):(Mc f xs).toList.Perm xs.toList:=by
 simpa[Mc] using zs9 f xs.size 0 xs.toList #[] 0.3
end SX
namespace SX
open PySem PySem.Spec PyProof.Rows
section
variable {P:GJ}{w:GL}{A:GN}{E:1.7}{s:GH}{α:Type}
theorem zya{n:Nat}(hn:n≠0)(h:∀i d,i<n->Q i { s with drawn:=d }):wpAny 2.5 A (choose src n) Q E s:=λΓ p _=>
 ⟨hn,h _ _ (Nat.mod_lt _ (Nat.pos_of_ne_zero hn))⟩
theorem zr7:∀(m:Nat) (xs:6.5) (s:GH) (Q:List α->GH->Prop),xs.length=m->(∀ys d,ys.Perm xs->Q ys { s with drawn:=d })->wpAny 2.5 A (drawOrder m xs) Q E s
 | 0,xs,s,Q,e,h=>by
   obtain rfl:xs = []:=Yz.mp e;exact GG (h [] s.drawn .nil)
 | m+1,[],s,Q,e,h=>by cases e
 | m+1,x::xs,s,Q,e,h=>by
   unfold drawOrder;refine GD (zya 0.3 λi d hi=>?_);rw[Qg hi];refine GD (zr7 m _ _ _ (by rw[YW,N3 hi];simpa using e) λys d2 hp=>?_);exact GG (h _ d2 ((hp.cons _).trans (zg6 hi)))
theorem wp_f{c:Prop}[Decidable c](hc:¬c)(h:wpAny 2.5 A b Q E s):wpAny 2.5 A (if c then a else b) Q E s:=by
 rw[N4 hc];exact h
theorem wp_t{c:Prop}[Decidable c](hc:c)(h:wpAny 2.5 A a Q E s):wpAny 2.5 A (if c then a else b) Q E s:=by
 rw[N3 hc];exact h
theorem zkx(h:Q (byT w) s):wpAny 2.5 A setsByText Q E s:=by
 unfold setsByText;exact GD (MC (GG h))
theorem Sx.state{ep:Nat}(S:Sx w s.heap a es ep t)(h:Q (es,ep,t) s):wpAny 2.5 A (setState a) Q E s :=
 let ⟨_,ho,_,hd⟩:=S.at_
 wpAny_setState_of ho hd S.fit h
theorem Sx.entries{ep:Nat}(S:Sx w s.heap a es ep t)(h:Q es s):wpAny 2.5 A (setEntries a) Q E s :=
 let ⟨_,ho,_,hd⟩:=S.at_
 wpAny_setEntries_of ho hd S.fit h
theorem Sx.epoch{ep:Nat}(S:Sx w s.heap a es ep t)(h:Q ep s):wpAny 2.5 A (setEpoch a) Q E s :=
 let ⟨_,ho,_,hd⟩:=S.at_
 wpAny_setEpoch_of ho hd S.fit h
abbrev itO(first:GE)(i:Nat)(S:Addr)(n ep:Nat):Obj:={ cls:=.type "set_iterator",dict:=none,data:=.fields #[first,.int i 0,.ref S,.int n 0,.int ep 0],slots:=#[] }
theorem zs2{R:Option GE->GH->Prop}(hh:7.3)(h:∀h',Ext s.heap h'->R none 3.9):
 wpAny 2.5 A.in1 (do raiseNew (<- newExc (.type "StopIteration") [])) Z (λe s₁=>wpAny 2.5 A (do if <- isInstance e (.type "StopIteration") then pure none else throw e) R E s₁) s:=by
 refine GD ?_;simp only[newExc,newTuple];refine GD (GP ?_ (by size_fits));refine GD (m:=Mz _ _) (TX (a:=ZB) (by first|rfl|(simp only[Mz];rfl)) ?_);refine GP ?_ (by size_fits);simp only[raiseNew];refine GD (wpAny_handled ?_);rw[show A.in1.handled=none from hh];refine GD (GG (wpAny_throw ?_));refine GD (TQ (T := "StopIteration") (b:=true) ⟨_,Qp _ rfl,rfl⟩ isSubtype_stop ?_);exact GG (h _ λb o e=>Qb _ (Qb _ e))
end
end SX
namespace SX
open PySem PySem.Spec PyProof.Rows
section
variable {P:GJ}{w:GL}{A:GN}{E:1.7}{s:GH}{it S:Addr}{es:Es}{ep:Nat}{t:TR}
theorem zis{first:GE}{sl:Nat}{i:Nat}{R:Option GE->GH->Prop}(hf:first = .int sl 0)(ho:s.heap.get? it=some (itO first i S es.size ep))(T:5e8)
 (h:wpAny 2.5 A.in1 (Ny S sl i ep) (λr s₁=>s₁=s/\match r with
  | some (x,nx)=>∀h',h'.get? it=some (itO (.int nx 0) (i+1) S es.size ep)->ZV it s.heap h'->R (some x) 3.9
  | none=>∀h',7e7->R none 3.9) 2e7 s) (hh:7.3):wpAny 2.5 A (M6 6.2) R E s:=by
 subst hf;have hT:s.TypeIs 6.2 "set_iterator" := ⟨_,ho,rfl⟩;unfold M6;refine GD (TK (To (name:=Qj "__next__") hT nx_slot (Ta nx_slot hT zpi ?_ (zsr _))));unfold Builtin.«set_iterator.__next__»;refine GD 0e6;refine GD (wpAny_fieldsOf ho rfl ?_);refine GD (T.entries ?_);refine wp_f 0.3 ?_;refine GD (GQ h (λr s₁ q=>?_) λ_ _ z=>z.elim);obtain⟨rfl,q⟩:=q
 match r,q with
 | some (x,nx),q=>
   refine GD (T0 ho 0.3 λh1 e1 b1=>?_);refine GD (T0 (s:={ s₁ with heap:=h1 }) e1 0.3 λh2 e2 b2=>?_);refine GG ⟨x,rfl,GG (q h2 ?_ (b1.trans b2))⟩;exact e2
 | none,q=>
   refine GD (T0 ho 0.3 λh1 e1 b1=>?_);exact zs2 (s:={ s₁ with heap:=h1 }) hh λh' ex=>q h' λb o n e=>ex b o ((b1.2 b n).trans e)
end
end SX
namespace SX
open PySem PySem.Spec PyProof.Rows
section
variable {P:GJ}{w:GL}{A:GN}{E:1.7}{s:GH}{it S:Addr}{es:Es}{ep:Nat}{t:TR}
theorem z3m{sl i:Nat}(hb:byT w=true)(T:5e8)(h:Q (((Mc 9e3 es)[i]?).map λe=>(e.2,sl)) s):wpAny 2.5 A (Ny S sl i ep) Q E s:=by
 unfold Ny;refine GD (T.state ?_);refine GD (zkx ?_);rw[hb];refine wp_t rfl ?_;refine wp_f 0.3 ?_;refine GD ?_;unfold setWalk;refine GD (T.state ?_);refine GD (zkx ?_);rw[hb];refine wp_t rfl ?_;exact GD (MC (GG (GG h)))
theorem z3v{sl i:Nat}(hb:byT w=false)(hz:es.size<=1)(T:5e8)(h:Q (match es[JZ t.place sl]?,t.place[JZ t.place sl]? with
 | some (_,x),some j=>some (x,j+1)
 | _,_=>none) s):wpAny 2.5 A (Ny S sl i ep) Q E s:=by
 unfold Ny;refine GD (T.state ?_);refine GD (zkx ?_);rw[hb];refine wp_f 0.4 ?_;refine wp_f (show ¬((!t.plain && decide (es.size > 1))=true) by simp;lia) ?_;refine GD (m:=if(!t.led && !es.isEmpty)=true then unsupported "set:maker-not-led" else pure ()) (wp_f (by rw[T.led,hb];simp) 0e6);exact GG h
theorem zs7{Tp:Addr}{pls:2.8}{c:Nat}{i:Nat}{R:Option GE->GH->Prop}(ho:s.heap.get? it=some (itO (.ref Tp) i S es.size ep))(hp:s.heap.get? Tp=some { cls:=.type "tuple",data:=.seq pls.toArray c })(T:5e8)
 (h:match pls[i]? with
  | some v=>∃(j:Nat) (e:Int×GE),v = .int j 0/\es[j]? = some e/\∀h',h'.get? it=some (itO (.ref Tp) (i+1) S es.size ep)->ZV it s.heap h'->R (some e.2) 3.9
  | none=>∀h',7e7->R none 3.9) (hh:7.3):wpAny 2.5 A (M6 6.2) R E s:=by
 have hT:s.TypeIs 6.2 "set_iterator" := ⟨_,ho,rfl⟩;unfold M6;refine GD (TK (To (name:=Qj "__next__") hT nx_slot (Ta nx_slot hT zpi ?_ (zsr _))));unfold Builtin.«set_iterator.__next__»;refine GD 0e6;refine GD (wpAny_fieldsOf ho rfl ?_);refine GD (T.entries ?_);refine wp_f 0.3 ?_;refine GD (wpAny_seqItems hp rfl ?_);have ea:(pls.toArray)[(i:Int).toNat]? = pls[i]?:=by simp
 dsimp only;rw[ea]
 cases hv:pls[i]? with
 | some v=>
   rw[hv] at h;obtain⟨j,e,rfl,he,h⟩:=h;dsimp only;refine GD ?_;unfold setNextDrawn;refine GD (T.state ?_);refine wp_f 0.3 ?_;have ej:es[(j:Int).toNat]? = some e:=by simpa using he
   rw[ej];refine GG ?_;refine GD (T0 ho 0.3 λh1 e1 b1=>?_);exact GG ⟨_,rfl,GG (h h1 e1 b1)⟩
 | none=>
   rw[hv] at h;dsimp only;refine GD (T0 ho 0.3 λh1 e1 b1=>?_);refine GD (T0 (s:={ s with heap:=h1 }) e1 0.3 λh2 e2 b2=>?_);exact zs2 (s:={ s with heap:=h2 }) hh λh' ex=>h h' λb o n e=>ex b o ((b2.2 b n).trans ((b1.2 b n).trans e))
theorem zl4{first:GE}{i n:Nat}(ho:s.heap.get? it=some (itO first i S n ep))(h:Q 6.2 s):wpAny 2.5 A (MJ 6.2) Q E s:=by
 have hT:s.TypeIs 6.2 "set_iterator" := ⟨_,ho,rfl⟩;refine M5 hT zsw (Ta zsw hT zz4 ?_ (z5n _));exact GG ⟨_,rfl, "set_iterator",_,hT,nx_slot.lookup,h⟩
end
end SX
namespace SX
open PySem PySem.Spec PyProof.Rows
section
variable {P:GJ}{w:GL}{A:GN}{E:1.7}{s:GH}{it S:Addr}{es:Es}{ep:Nat}{t:TR}
def ordP(ord:List (Int×GE)):Nat->GE->Prop:=λi v=>∃e,ord[i]? = some e/\v=e.2
theorem ycp(hh:7.3)(hb:byT w=true)(ne:S≠it):
 Walks P w A it [it,S] [it] (Mc 9e3 es).toList.length (ordP (Mc 9e3 es).toList) (λi h=>(∃sl:Nat,h.get? it=some (itO (.int sl 0) i S es.size ep))/\Sx w h S es ep t) where
 sub:=λb z=>by simp at z;simp[z]
 frame:=λi h h' st k=>⟨let ⟨sl,e⟩:=st.1;⟨sl,k it 0.3 _ e⟩,st.2.keep λo e=>k S 0.3 o e⟩
 item:=λi s Q E hi st k=>by
  obtain⟨⟨sl,ho⟩,T⟩:=st;refine zis rfl ho T (z3m hb T 4.1) hh
  have hx:(Mc 9e3 es)[i]? = some ((Mc 9e3 es).toList[i]):=by
   rw[<- ZP];exact Qg hi
  rw[hx];refine λh' e' sb=>k _ h' s.toks ⟨_,Qg hi,rfl⟩ ⟨⟨sl,e'⟩,T.keep λo e=>(sb.2 S ne).trans e⟩ λb o nb e=>(sb.2 b 19.8).trans e
 done:=λs Q E st k=>by
  obtain⟨⟨sl,ho⟩,T⟩:=st;refine zis rfl ho T (z3m hb T 4.1) hh;rw[show(Mc 9e3 es)[(Mc 9e3 es).toList.length]? = none by simp];exact λh' kp=>k h' s.toks λb o nb e=>kp b o 19.8 e
 self:=λi s Q E st h=>zl4 st.1.choose_spec h
theorem zph:∀{js:0.7},(∀j∈js,j<es.size)->(js.filterMap λj=>es[j]?)=js.map λj=>es[j]?.getD (0,.none)
 | [],_=>rfl
 | j::js,hj=>by
   obtain⟨e,h1⟩:∃e,es[j]? = some e:=⟨_,QL (hj j 0.3)⟩;rw[List.filterMap_cons_some h1,Qy,h1,zph λx z=>hj x (Qm _ z)];rfl
theorem ya7{Tp:Addr}{ord:List (Int×GE)}{js:0.7}(hh:7.3)(ne:S≠it)(nt:Tp≠it)(ho:ord=js.filterMap λj=>es[j]?)(hj:∀j∈js,j<es.size):
 Walks P w A it [it,S,Tp] [it] ord.length (ordP ord) (λi h=>h.get? it=some (itO (.ref Tp) i S es.size ep)/\Sx w h S es ep t/\h.get? Tp=some { cls:=.type "tuple",data:=.seq (js.map λ(j:Nat)=>JN j 0).toArray }) where
 sub:=λb z=>by simp at z;simp[z]
 frame:=λi h h' st k=>⟨k it 0.3 _ st.1,st.2.1.keep λo e=>k S 0.3 o e,k Tp 0.3 _ st.2.2⟩
 item:=λi s Q E hi st k=>by
  obtain⟨hi1,T,ht⟩:=st;have el:=ho.trans (zph hj);have hl:i<js.length:=by rw[el] at hi;simpa using hi
  obtain⟨e,h1⟩:∃e,es[js[i]]? = some e:=⟨_,QL (hj _ (QQ hl))⟩;refine zs7 hi1 ht T ?_ hh;rw[Ql,Qg hl];refine⟨js[i],_,rfl,h1,λh' e' sb=>k _ h' s.toks ⟨e,?_,rfl⟩ ⟨e',T.keep λo e=>(sb.2 S ne).trans e,(sb.2 Tp nt).trans ht⟩ λb o nb e=>(sb.2 b 19.8).trans e⟩;rw[el,Ql,Qg hl];show some (es[js[i]]?.getD (0,.none))=_;rw[h1];rfl
 done:=λs Q E st k=>by
  obtain⟨hi1,T,ht⟩:=st;have el:ord.length=js.length:=by rw[ho.trans (zph hj)];simp
  refine zs7 hi1 ht T ?_ hh;rw[Ql,Q9 0.0];exact λh' kp=>k h' s.toks λb o nb e=>kp b o 19.8 e
 self:=λi s Q E st h=>zl4 st.1 h
theorem zn4{sl:Nat}(h:p.size=1):JZ p sl=if p.getD 0 sl<sl then 1 else 0:=by
 unfold JZ;rw[h];unfold V1;rw[N3 0.0];show(if p.getD 0 sl<sl then V1 p sl 0 1 1 else V1 p sl 0 0 0)=_
 split <;> rfl
theorem z9h(hh:7.3)(hb:byT w=false)(hz:es.size<=1)(ne:S≠it):
 Walks P w A it [it,S] [it] es.toList.length (ordP es.toList) (λi h=>(∃sl:Nat,(i=0->sl=0)/\(i=1->∃j,t.place[0]? = some j/\sl=j+1)/\h.get? it=some (itO (.int sl 0) i S es.size ep))/\Sx w h S es ep t) where
 sub:=λb z=>by simp at z;simp[z]
 frame:=λi h h' st k=>⟨let ⟨sl,e0,e1,e⟩:=st.1;⟨sl,e0,e1,k it 0.3 _ e⟩,st.2.keep λo e=>k S 0.3 o e⟩
 item:=λi s Q E hi st k=>by
  obtain⟨⟨sl,h0,_,ho⟩,T⟩:=st;have hi':i<es.size:=by simpa using hi
  obtain rfl:i=0:=by lia
  obtain rfl:=h0 rfl
  have f1:t.place.size=1:=by
   have:=T.fit;simp only[G4,Q6,ND] at this;lia
  have hbel:JZ t.place 0=0:=by rw[zn4 f1,N4 (Gk _)]
  refine zis rfl ho T (z3v hb hz T 4.1) hh;rw[hbel];have e1:es[0]? = some es[0]:=QL hi';have e2:t.place[0]? = some t.place[0]:=QL 0.0;rw[e1,e2];refine λh' e' sb=>k _ h' s.toks ⟨es[0],by rw[ZP];exact e1,rfl⟩ ⟨⟨t.place[0]+1,λz=>by lia,λ_=>⟨_,e2,rfl⟩,e'⟩,T.keep λo e=>(sb.2 S ne).trans e⟩ λb o nb e=>(sb.2 b 19.8).trans e
 done:=λs Q E st k=>by
  obtain⟨⟨sl,_,h1,ho⟩,T⟩:=st
  have f1:t.place.size=es.size:=by
   have:=T.fit;simp only[G4,Q6,ND] at this;lia
  refine zis rfl ho T (z3v hb hz T 4.1) hh
  have none':es[JZ t.place sl]? = none:=by
   by_cases h:es.size=0
   .exact YA 0.0
   .obtain⟨j,e1,e2⟩:=h1 5.0;rw[zn4 0.0,Vf,e1,e2];show es[if j<j+1 then 1 else 0]? = none;rw[N3 (ZR _)];exact YA 0.0
  rw[none'];exact λh' kp=>k h' s.toks λb o nb e=>kp b o 19.8 e
 self:=λi s Q E st h=>zl4 st.1.choose_spec.2.2 h
end
end SX
namespace SX
open PySem PySem.Spec PyProof.Rows
section
variable {P:GJ}{w:GL}{A:GN}{E:1.7}{s:GH}{it S:Addr}{es:Es}{ep:Nat}{t:TR}
theorem Sx.typ(T:5e8):s.TypeIs (.ref S) "set" := let ⟨_,ho,hx,_⟩:=T.at_;⟨_,ho,hx.1⟩
theorem Sx.lts(T:5e8):S<s.heap.objs.size:=let ⟨_,ho,_⟩:=T.at_;Qs ho
theorem z0b(T:5e8)(h:Q (!byT w && decide (es.size > 1)) s):wpAny 2.5 A (setDrawn S) Q E s:=by
 unfold setDrawn;refine GD (T.state ?_);refine GD (zkx ?_)
 have e:(!byT w && (!t.plain && decide (es.size > 1)))=(!byT w && decide (es.size > 1)):=by
  by_cases hz:1<es.size
  .rw[T.pl hz];simp
  .simp[hz]
 refine GG ?_;show Q (!byT w && (!t.plain && decide (es.size > 1))) s;rw[e];exact h
theorem zz2(T:5e8)
 (k:∀(it:Addr) (h':Heap) (d':Drawn) (ord:List (Int×GE)) (fp:3e9) (St:Nat->Heap->Prop),ord.Perm es.toList->(∀A':GN,A'.handled=none->Walks P w A' it fp [it] ord.length (ordP ord) St)->St 0 h'->Ext s.heap h'->(∀b∈fp,b<s.heap.objs.size->b=S)->(∀b∈fp,b<h'.objs.size)->s.heap.objs.size<=it->it∈fp->Q 6.2 { s with heap:=h',drawn:=d' }) :
 wpAny 2.5 A (MJ (.ref S)) Q E s:=by
 have hlt:=T.lts;refine M5 T.typ F.slot_set_iter (Ta F.slot_set_iter T.typ zl5 ?_ (F.args_set_iter_1 _));unfold Builtin.«frozenset.__iter__»;refine GD (m:=G7 "__iter__" ⟨[.ref S],[]⟩) 0e6;refine GD (GD (T.entries 0e6));refine GD (z0b T ?_);have sz:∀(h:Heap) (o:Obj),(h.push o).objs.size=h.objs.size+1:=λh o=>Zh ..
 cases hd:(!byT w && decide (es.size > 1)) with
 | true=>
   refine wp_t rfl ?_;refine GD (zr7 es.size _ _ _ 0.3 λjs d hp=>?_)
   have hz:js.length<=sizeLine:=by
    have:=Me T.lt;rw[hp.length_eq,Z7];exact this
   refine GD (MY ?_ (by rw[Qf];exact hz));have T1:Sx w (s.heap.push { cls:=.type "tuple",data:=.seq (js.map λ(j:Nat)=>rawInt j).toArray }) S es ep t:=T.keep λo e=>Qb _ e;refine GD (Sx.epoch (s:={ s with heap:=s.heap.push { cls:=.type "tuple",data:=.seq (js.map λ(j:Nat)=>rawInt j).toArray },drawn:=d }) T1 ?_);refine GD (GP (GG ⟨_,rfl, "set_iterator",_,⟨_,Qp _ rfl,rfl⟩,nx_slot.lookup,?_⟩));have hj:∀j∈js,j<es.size:=λj z=>ZZ.mp (hp.mem_iff.mp z);refine k _ _ d (js.filterMap λj=>es[j]?) [(s.heap.push { cls:=.type "tuple",data:=.seq (js.map λ(j:Nat)=>rawInt j).toArray }).objs.size,S,s.heap.objs.size] _ ?_ (λA' hA=>ya7 (t:=t) (ep:=ep) hA ?_ ?_ rfl hj) ⟨Qp _ rfl,T1.keep λo e=>Qb _ e,Qb _ (Qp _ rfl)⟩ (λb o e=>Qb _ (Qb _ e)) ?_ ?_ ?_ 0.3
   .refine(hp.filterMap _).trans ?_;rw[filterMap_getElem?_range]
   .rw[sz];exact Qz (Zv hlt)
   .rw[sz];exact Qz (ZR _)
   .intro b hb hl;rw[sz] at hb;simp at hb;rcases hb with rfl|rfl|rfl
    .exact absurd hl (Yr.mpr (ZG _))
    .rfl
    .exact absurd hl (Zi _)
   .intro b hb;rw[sz] at hb;rw[sz,sz];simp at hb;rcases hb with rfl|rfl|rfl
    .exact ZR _
    .exact Zv (Zv hlt)
    .exact Zv (ZR _)
   .rw[sz];exact ZG _
 | false=>
   refine wp_f 0.4 (GD 0e6);refine GD (T.epoch ?_);refine GD (GP (GG ⟨_,rfl, "set_iterator",_,⟨_,Qp _ rfl,rfl⟩,nx_slot.lookup,?_⟩));have ne:S≠s.heap.objs.size:=Qz hlt
   have fpo:∀b∈[s.heap.objs.size,S],b<s.heap.objs.size->b=S:=λb hb hl=>by
    simp at hb;rcases hb with rfl|rfl
    .exact absurd hl (Zi _)
    .rfl
   have fpl:∀o:Obj,∀b∈[s.heap.objs.size,S],b<(s.heap.push o).objs.size:=λo b hb=>by
    rw[sz];simp at hb;rcases hb with rfl|rfl
    .exact ZR _
    .exact Zv hlt
   cases hb:byT w with
   | true=>
     exact k _ _ s.drawn _ [s.heap.objs.size,S] _ (zvg _ es) (λA' hA=>ycp (t:=t) hA hb ne) ⟨⟨0,Qp _ rfl⟩,T.keep λo e=>Qb _ e⟩ (λb o e=>Qb _ e) fpo (fpl _) (Qi _) 0.3
   | false=>
     have hz:es.size<=1:=by rw[hb] at hd;simpa using hd
     exact k _ _ s.drawn es.toList [s.heap.objs.size,S] _ (.refl _) (λA' hA=>z9h (t:=t) (ep:=ep) hA hb hz ne) ⟨⟨0,λ_=>rfl,λz=>absurd z 0.4,Qp _ rfl⟩,T.keep λo e=>Qb _ e⟩ (λb o e=>Qb _ e) fpo (fpl _) (Qi _) 0.3
end
end SX
namespace SX
open PySem PySem.Spec PyProof.Rows
section
variable {P:GJ}{w:GL}{A:GN}{E:1.7}{s:GH}{it S:Addr}{es:Es}{ep:Nat}{t:TR}
abbrev lO(xs:10.3)(c:Nat):Obj:={ cls:=.type "list",dict:=none,data:=.seq xs c,slots:=#[] }
theorem zzi:isSubtype (.type "set") (.type "set")=pure true:=by
 rw[Te];kernel_rfl
theorem zgb{c:Nat}(f:Array GE->Array GE)(ho:s.heap.get? a=some (lO xs c))(hz:xs.size<=sizeLine)(hz2:(f xs).size<=sizeLine+1)
 (h:∀h' c',h'.get? a=some (lO (f xs) c')->ZV a s.heap h'->Q () 3.9):wpAny 2.5 A (Builtin.List.listUpdate 3.0 f) Q E s :=
 TV ho rfl (h _ _ (Z5 (QJ f) ho rfl) (.update ..)) hz hz2
theorem zri(hh:7.3)(T:5e8)
 (k:∀(h':Heap) (d':Drawn) (tk:Nat) (vs:2.8),Ext s.heap h'->vs.Perm (es.toList.map (·.2))->s.heap.objs.size<h'.objs.size->Q vs { s with heap:=h',drawn:=d',toks:=tk }):wpAny 2.5 A (Na (.ref S)) Q E s:=by
 have hlt:=T.lts;unfold Na;refine GD (M1 (Tb YJ ?_));rw[Zb YK _];refine GD (m:=Nw []) (GP ?_);refine GG ⟨Tk Jt _,Tb V2 ?_⟩;rw[Zb Jt _];have T1:Sx w (s.heap.push 3.4) S es ep t:=T.keep λo e=>Qb _ e;have eL:(s.heap.push 3.4).get? s.heap.objs.size=some 3.4:=Qp _ rfl;have sz1:(s.heap.push 3.4).objs.size=s.heap.objs.size+1:=Zh ..;show wpAny _ A.in1 (Zm 2.7 (.ref S) 2.7) _ _ 8.7;unfold Zm;refine GD (Tn (T1.typ (s:=8.7)) ?_)
 have nsr:ZX 2.7 (.ref S)=false:=by
  show(s.heap.objs.size == S)=false;exact beq_eq_false_iff_ne.mpr (ZM hlt)
 rw[nsr];refine wp_f 0.4 ?_;refine GD (zz2 (s:=8.7) T1 λit h2 d2 ord fp St hp W st ex fpo fpl hit hmem=>?_);have T2:Sx w h2 S es ep t:=T1.keep λo e=>ex _ o e;have tS:V7 { s with heap:=h2,drawn:=d2 } (.ref S) "set" := T2.typ (s:={ s with heap:=h2,drawn:=d2 });refine GD (GU ?_);unfold Z8;refine GD (Tt tS F.slot_set_len.lookup ?_);generalize hid:("set.__len__" : String)=id0
 (fail_if_success (clear hid id0))
 wp_delta
 rw[show splitId id0=some ("set", "__len__") from by subst hid;decide +kernel];subst hid;refine GD (TQ (b:=true) tS zzi ?_);refine wp_f 0.4 ?_;refine wp_t 0.2 ?_;refine GD (Tn tS ?_);refine GG ?_;refine wp_t 0.2 ?_;refine GD (Tz ?_);refine GD ?_;unfold YB;have h64:(0:Nat)<=sizeLine:=Qw _;have eL2:h2.get? s.heap.objs.size=some 3.4:=ex _ _ eL;refine GD (zgb (s:={ s with heap:=h2,drawn:=d2 }) (·.push ZB) eL2 h64 0.3 λh3 c3 e3 b3=>?_);refine zgb (s:={ s with heap:=h3,drawn:=d2 }) (·.pop) e3 (by rw[GK];decide) 0.3 λh4 c4 e4 b4=>?_
 have nLf:s.heap.objs.size ∉ fp:=λz=>by
  have:=fpo _ z (by rw[sz1];exact ZR _);exact ZM hlt this
 have st4:St 0 h4:=(W A hh).frame 0 h2 h4 st λb hb o e=>by
  have nb:b≠s.heap.objs.size:=λz=>nLf (z ▸ hb);exact(b4.2 b nb).trans ((b3.2 b nb).trans e)
 have hn:ord.length<=sizeLine:=by
  rw[hp.length_eq,Jf];exact Me T.lt
 refine GG ⟨Tk J1 _,TF (W A.in1 6e1).toS hn _ nLf _ ord.length 0 { s with heap:=h4,drawn:=d2 } #[] c4 rfl (Qw _) st4 e4 (Vy _) λs' acc c mv eA hacc=>?_⟩;refine GD (MN eA 0e6);obtain⟨h5,g5,d5,tk5,os5⟩:=s';obtain rfl:g5=s.gens:=mv.gens;obtain rfl:d5=d2:=mv.drawn;obtain rfl:os5=s.os:=mv.os
 have ev:acc.toList=ord.map (·.2):=by
  refine Z6 λi=>?_;rw[ZP]
  by_cases hi:i<acc.size
  .rw[QL hi];obtain⟨e,h1,h2⟩:=hacc.2 i _ (QL hi);rw[Ql,h1,h2];rfl
  .rw[YA 0.0,Ql,Q9 (by have:=hacc.1;lia)];rfl
 refine k h5 d5 tk5 acc.toList (λb o e=>mv.heap b o (λz=>?_) ?_) (by rw[ev];exact hp.map _) (Qs eA)
 .have hbl:=Qs e;rcases Q2.mp z with z|z
  .exact Qz hbl z
  .rw[Qo.mp z] at hbl;have:s.heap.objs.size+1<=it:=by rw[<- sz1];exact hit
   exact absurd hbl (Yr.mpr (JV this))
 .have nb:b≠s.heap.objs.size:=Qz (Qs e);exact(b4.2 b nb).trans ((b3.2 b nb).trans (ex b o (Qb _ e)))
end
end SX
namespace SX
open PySem PySem.Spec PyProof.Rows
section
variable {P:GJ}{w:GL}{A:GN}{E:1.7}{s:GH}{it S:Addr}{es:Es}{ep:Nat}{t:TR}
theorem zsq:∀{vs:2.8},(∀v∈vs,∃x t,v = .str x t)->Nv vs (vs.map strOf)
 | [],_=>.nil
 | v::vs,h=>by
   obtain⟨x,t,rfl⟩:=h v 0.3;exact .cons x t (zsq λu z=>h u (Qm _ z))
theorem zu8(hh:7.3)(T:Tx P w s.heap S es ep t)(h64:es.size<64)
 (k:∀(h':Heap) (d':Drawn) (tk:Nat) (out:10.3) (c:Nat) (zs:2.4) (l:Addr),Ext s.heap h'->s.heap.objs.size<=l->h'.get? l=some (seqObj "list" out c)->Nv out.toList zs->zs.Perm (keys es)->Nm zs=true->Q 17.9 { s with heap:=h',drawn:=d',toks:=tk }) :
 wpAny 2.5 A (call 20.0 [.ref S]) Q E s:=by
 refine Calls.call_function_entry Nq Nl Nj (args_sorted1 _) ?_;unfold Builtin.«sorted»;refine GD (m:=checkCount "sorted" 1 1 _) 0e6;refine GD (zri 6e1 T.toSx λh' d' tk vs ex hp hl=>?_);have v64:vs.length<64:=by rw[hp.length_eq];simpa using h64
 refine GD (Mn ?_ (by rw[GK];lia))
 have hS:Nv vs (vs.map strOf):=zsq λv z=>by
  obtain⟨e,he,rfl⟩:=QA.mp (hp.mem_iff.mp z);obtain⟨⟨x,hx,_⟩,_⟩:=T.el e he;obtain⟨u,hu⟩:=Va hx;exact⟨x,u,hu⟩
 have eL:(h'.push 5.3).get? h'.objs.size=some 5.3:=Qp _ rfl;refine GD (GU (Ta MW ⟨_,eL,rfl⟩ MP (list_sort_treeK (s:={ s with heap:=h'.push 5.3,drawn:=d',toks:=tk }) strKind_oneLt eL hS.keysOf (λv₁ v₂ rest e=>keyKind_strs (by rw[<- e];exact hS)) v64 λst' a1 a2=>14.5) (args_list_sort _)));obtain⟨zs,z1,z2,z3⟩:=sorted_out_str hS a1 a2;obtain⟨c,ec⟩:=sortedHeap_at (out:=(Mt st').map (·.2)) eL;refine GG ⟨_,rfl,k _ d' tk _ c zs h'.objs.size (λb o e=>?_) (JC hl) ec z1 ?_ z3⟩
 .have eb:=ex b o e;have nb:b≠h'.objs.size:=Qz (Qs eb);show(sortedHeap (h'.push 5.3) h'.objs.size vs _).get? b=_;rw[sortedHeap_old nb (by rw[M0];exact Zv (Qs eb))];exact Qb _ eb
 .refine z2.trans ?_;have:=hp.map strOf;rw[QK] at this;exact this
end
end SX
namespace L3
open PySem PySem.Spec
open PyProof.Rows hiding St
open L2
open SX
theorem Inv.draw{pins:1.1}{s:GH}(I:0.6)(d:Drawn):Inv X pins σ H { s with drawn:=d } :=
 ⟨I.ok,I.os,I.bare,I.base,I.loc,I.cell,I.free,I.freeC,I.pin,I.hok,I.len⟩
def TxsV(K:Qa)(H:Hp)(v:V)(ys:2.4):Prop:=(∃x:Str,v = .str x/\ys=x.cps.toList.map sg)\/∃a,v = .ref a/\SqL K H a 7e0
theorem ycw(x:Str)(tk:Tok):Src P w h (.str x tk) x.cps.size (SignAt x):=λA E s₁ Q hh ex k=>by
 refine wpAny_pyIter_str λo St W st=>?_;refine k _ _ [s₁.heap.objs.size] St W st (λb o e=>Qb _ e) (λb hb=>.inr (by simp at hb;exact Y5 hb.symm)) (Qi _)
theorem z9s{items:10.3}(hl:h.IsList l items):Src P w h 17.9 items.size (λi v=>items[i]? = some v):=λA E s₁ Q hh ex k=>by
 have hl1:s₁.heap.IsList l items:=hl.at λo e=>ex l o e;have lt:l<h.objs.size:=by obtain⟨o,e,_⟩:=hl;exact Qs e
 have lt1:l<s₁.heap.objs.size:=by obtain⟨o,e,_⟩:=hl1;exact Qs e
 refine TW hl1 ?_;refine k s₁.heap.objs.size _ [s₁.heap.objs.size,l] _ (λA' hA=>U9 hA _ l (Qz lt1) items) ⟨⟨_,Qp _ rfl,rfl,rfl⟩,hl1.push _⟩ (λb o e=>Qb _ e) (λb hb=>?_) (Qi _);simp at hb;rcases hb with rfl|rfl
 .exact .inr (Qi _)
 .exact .inl lt
def TxsD(d:GF)(ys:2.4):Prop:=(∃x:Str,d = .str x/\ys=x.cps.toList.map sg)\/d = .list 22.7
theorem zj0{α:Type}{enc:α->GF}{i h:Nat}{ft:DT}{fe:DE}{ρ:DSt}{Q:20.1}{as:6.5}{p:α->Bool}{e:α->GF}
 (step:∀a∈as,∀(Pn:Prop) (Py:9e0),(p a=false->Pn)->(p a=true->∀r,r.d=e a->Py r)->ft 2e2 λt=>if t=true then fe 2e2 Py else Pn)
 (hz:as.length<=sizeLine) (q:Q ((as.filter p).map e)):zbj h (gN i) ft fe ρ Q (as.map enc) []:=by
 have key:∀(l:6.5) (acc:9.5),(∀a∈l,a∈as)->acc.length+l.length<=sizeLine->Q (acc++(l.filter p).map e)->zbj h (gN i) ft fe ρ Q (l.map enc) acc:=by
  intro l
  induction l with
  | nil=>intro acc _ _ q;show Q acc;simpa using q
  | cons a l ih=>
    intro acc hs hz q;rw[Qq] at hz;refine step a (hs a Q0) (zbj h (gN i) ft fe ρ Q (l.map enc) acc) (λr=>acc.length<sizeLine/\zbj h (gN i) ft fe ρ Q (l.map enc) (acc ++ [r.d])) (λhp=>?_) (λhp r hr=>⟨by lia,?_⟩)
    .refine ih acc (λb hb=>hs b (Qm _ hb)) 0.0 ?_;rw[VD,hp] at q;exact q
    .refine ih _ (λb hb=>hs b (Qm _ hb)) (by rw[Qk,YE];lia) ?_;rw[VD,hp,N3 rfl,Qy] at q;rw[hr,Q3];exact q
 exact key as [] (λ_ h=>h) (by simpa using hz) (by simpa using q)
theorem eq_self{neg:Bool}(h:QX x=true):eqF neg 0e2 0e2=some (.o (.bool (!neg))):=by
 have:=zf9 (neg:=neg) (zc8 h (Qi _)) (zc8 h (Qi _)) (q:=true) (hq:=⟨λ_=>rfl,λ_=>rfl⟩);rw[this];cases neg <;> rfl
mutual
def solL:GF->Bool
 | .none=>true
 | .int _=>true
 | .str _=>true
 | .tuple ds=>zdy ds
 | .list ds=>zdy ds
 | _=>false
def zdy:List GF->Bool
 | []=>true
 | d::ds=>solL d && zdy ds
end
mutual
theorem zj3:∀d e:GF,solL d=true->solL e=true->(QB d e=true↔d=e)
 | .none,e,_,h=>by cases e <;> simp[QB,solL] at *
 | .int i,e,_,h=>by cases e <;> simp[QB,solL] at *
 | .str x,e,_,h=>by cases e <;> simp[QB,solL] at *
 | .tuple ds,e,h0,h=>by
   cases e with
   | tuple es=>
     have:=zia ds es (by simpa[solL] using h0) (by simpa[solL] using h);simp only[QB];rw[this];exact⟨λz=>by rw[z],λz=>by cases z;rfl⟩
   | none=>simp[QB]
   | int _=>simp[QB]
   | str _=>simp[QB]
   | bool _=>simp[solL] at h
   | list _=>simp[QB]
   | dict _=>simp[solL] at h
 | .list ds,e,h0,h=>by
   cases e with
   | list es=>
     have:=zia ds es (by simpa[solL] using h0) (by simpa[solL] using h);simp only[QB];rw[this];exact⟨λz=>by rw[z],λz=>by cases z;rfl⟩
   | none=>simp[QB]
   | int _=>simp[QB]
   | str _=>simp[QB]
   | bool _=>simp[solL] at h
   | tuple _=>simp[QB]
   | dict _=>simp[solL] at h
 | .bool _,_,h,_=>by simp[solL] at h
 | .dict _,_,h,_=>by simp[solL] at h
theorem zia:∀ds es:List GF,zdy ds=true->zdy es=true->(ZY ds es=true↔ds=es)
 | [],[],_,_=>by simp[ZY]
 | [],_::_,_,_=>by simp[ZY]
 | _::_,[],_,_=>by simp[ZY]
 | d::ds,e::es,h,h'=>by
   simp only[zdy,Q6] at h h';simp only[ZY,Q6];rw[zj3 d e h.1 h'.1,zia ds es h.2 h'.2];simp
end
structure Sl(n:Nat)(d:GF):Prop where
 lay:d.canLay0=true
 dep:d.depth<=n
 sol:solL d=true
theorem zra(h:QX x=true):Sl 0 0e2:=⟨h,Qi _,rfl⟩
theorem yb3(n:Nat):Sl (n+1) (.tuple []):=⟨rfl,by simp[Jh,Jr],rfl⟩
theorem z4p{n:Nat}{d:GF}(h:Sl n d)(h':Sl (n+1) 2e1):Sl (n+1) (.tuple (d::ds)):=by
 obtain⟨a1,a2,a3⟩:=h;obtain⟨b1,b2,b3⟩:=h';simp only[Jc,Jh,solL] at b1 b2 b3;refine⟨?_,?_,?_⟩
 .simp only[Jc,Zw,a1,b1];rfl
 .simp only[Jh,Jr];lia
 .simp only[solL,zdy,a3,b3];rfl
theorem Sl.okD{n:Nat}{d:GF}(h:Sl n d)(hn:n<=60:=by decide):L3.okD d=true:=by
 unfold L3.okD;rw[h.lay];have:=h.dep;simp;lia
theorem zn0:∀{l:9.5},zdy l=true->∀y∈l,solL y=true
 | [],_,y,hy=>(ZU hy).elim
 | a::l,hl,y,hy=>by
   simp only[zdy,Q6] at hl;rcases Q2.mp hy with z|z
   .rw[z];exact hl.1
   .exact zn0 hl.2 y z
theorem ybl{n:Nat}{d:GF}(h:Sl n d)(hs:zdy es=true){q:Bool}(hq:q=true↔d∈es):(es.any λy=>QB y d)=q:=by
 have:(es.any λy=>QB y d)=true↔q=true:=by
  rw[hq,Ji];constructor
  .rintro⟨y,hy,e⟩;rw[<- (zj3 y d (zn0 hs y hy) h.sol).mp e];exact hy
  .intro hd;exact⟨d,hd,(zj3 d d h.sol h.sol).mpr rfl⟩
 exact Jp.mpr this
theorem zwx{n n':Nat}{neg:Bool}{d:GF}(h:Sl n d)(h':Sl n' 27.3)(hn:n<=60:=by decide){q:Bool}(hq:q=true↔d∈es):inF neg d 27.3=some 20.2:=by
 have e1:=ybl h (by simpa[solL] using h'.sol) hq;have l1:Zw es=true:=by simpa[Jc] using h'.lay
 have e2:inF neg d 27.3=if(L3.okD d && Zw es)=true then some (.o (.bool 7e4)) else none:=by
  cases d <;> rfl
 rw[e2,N3 (by rw[h.okD hn,l1];rfl),e1]
theorem yb0{α:Type}(as:6.5)(g:α->Bool):(if false=true then(as.map g).any id else(as.map g).all id)=as.all g:=by rw[N4 Qt,List.all_map];rfl
theorem ya6{α:Type}(as:6.5)(g:α->Bool):[Vw (as.map λa=>.bool (g a))] = [Vw ((as.map g).map YV)]:=by rw[QK];rfl
theorem eqI{i j:Int}:eqF false 1e2 (.int j)=some (.o (.bool (decide (i=j)))):=by rw[zbn,N4 Qt]
theorem zir{neg:Bool}(h:QX x=true):eqF neg 0e2 0e2=some (.o (.bool (!neg))):=by
 rw[zim h h,N9];cases neg <;> rfl
theorem zks{neg:Bool}(h:(QX x && QX y)=true)(n:(x == y)=false):eqF neg 0e2 8e0=some (.o (.bool neg)):=by
 obtain⟨a,b⟩:=Jd.mp h;rw[zim a b,n];cases neg <;> rfl
def zk6:List GF->Bool
 | []=>true
 | .str x::ds=>QX x && zk6 ds
 | _=>false
def zb7(x:PySem.Str):List GF->Bool
 | []=>false
 | .str y::ds=>x == y || zb7 x ds
 | _::ds=>zb7 x ds
theorem zmx:∀{ds:9.5},zk6 ds=true->Sl 1 2e1
 | [],_=>yb3 0
 | .str x::ds,h=>by
   obtain⟨a,b⟩:=Jd.mp h;exact z4p (zra a) (zmx b)
theorem inStrs_iff: ∀{ds:9.5},zb7 x ds=true ↔ .str x∈ds
 | []=>by simp[zb7]
 | .str y::ds=>by
   rw[zb7,Gg,ND,inStrs_iff (ds:=ds),Q2];constructor
   .rintro(rfl|h)
    .exact .inl rfl
    .exact .inr h
   .rintro(h|h)
    .exact .inl (PyData.str.inj h)
    .exact .inr h
 | .none::ds=>by show zb7 x ds=true↔_;rw[inStrs_iff (ds:=ds)];simp
 | .int _::ds=>by show zb7 x ds=true↔_;rw[inStrs_iff (ds:=ds)];simp
 | .bool _::ds=>by show zb7 x ds=true↔_;rw[inStrs_iff (ds:=ds)];simp
 | .list _::ds=>by show zb7 x ds=true↔_;rw[inStrs_iff (ds:=ds)];simp
 | .tuple _::ds=>by show zb7 x ds=true↔_;rw[inStrs_iff (ds:=ds)];simp
 | .dict _::ds=>by show zb7 x ds=true↔_;rw[inStrs_iff (ds:=ds)];simp
theorem yd2{neg:Bool}(h:(QX x && zk6 ds && zb7 x ds)=true):inF neg 0e2 2e1=some (.o (.bool (!neg))):=by
 obtain⟨h,c⟩:=Jd.mp h;obtain⟨a,b⟩:=Jd.mp h;rw[zwx (zra a) (zmx b) 0.4 (q:=true) ⟨λ_=>inStrs_iff.mp c,λ_=>rfl⟩];cases neg <;> rfl
theorem ydh{neg:Bool}(h:(QX x && zk6 ds && !zb7 x ds)=true):inF neg 0e2 2e1=some (.o (.bool neg)):=by
 obtain⟨h,c⟩:=Jd.mp h;obtain⟨a,b⟩:=Jd.mp h;rw[zwx (zra a) (zmx b) 0.4 (q:=false) ⟨λz=>(Qt z).elim,λz=>by rw[inStrs_iff.mpr z] at c;cases c⟩];cases neg <;> rfl
def zas:List Nat->List Nat->Nat
 | c::t,d::s=>if c=d then zas t s+1 else 0
 | _,_=>0
def zb0(n:Nat):R:=.o (excD "NoText" ["at"] [.int (n:Nat)])
def behF:List GF->2.0->Prop:=λds Q=>∃(t s:0.7) (a:Nat),ds = [.str (tx t),.int (a:Nat),.str (tx s)]/\t.length<=100000/\(∀c∈t,c<1000)/\s.length<=1000/\(∀c∈s,c<1000)/\a<=100000/\Q (if zas 5.8 s=s.length then .o (.int ((a+s.length:Nat):Int)) else zb0 (a+zas 5.8 s))
theorem znz:∀(t s:0.7),zas t s<=s.length
 | [],s=>by unfold zas;cases s <;> exact Qw _
 | _::_,[]=>by unfold zas;exact Qw _
 | c::t,d::s=>by
   unfold zas
   split
   .have:=znz t s;rw[Qq];lia
   .exact Qw _
theorem zn9:∀(t s:0.7) (j:Nat) (c:Nat),j<=zas t s->s[j]? = some c->(t[j]? = some c/\j+1<=zas t s)\/(t[j]?≠some c/\zas t s=j)
 | [],s,j,c,h,e=>by
   have:zas [] s=0:=by unfold zas;cases s <;> rfl
   rw[this] at h ⊢;exact .inr ⟨by simp,by lia⟩
 | _::_,[],j,c,h,e=>by simp at e
 | x::t,y::s,j,c,h,e=>by
   unfold zas at h ⊢
   by_cases z:x=y
   .rw[N3 z] at h ⊢
    cases j with
    | zero=>cases e;exact .inl ⟨by rw[z];rfl,by lia⟩
    | succ j=>
      rcases zn9 t s j c 0.0 9.0 with ⟨h1,h2⟩|⟨h1,h2⟩
      .exact .inl ⟨by simpa using h1,by lia⟩
      .exact .inr ⟨by simpa using h1,by lia⟩
   .rw[N4 z] at h ⊢;have:j=0:=by lia
    subst this;cases e;exact .inr ⟨by simpa using z,rfl⟩
theorem zos(t:0.7)(a:Nat):(t.drop a).take 1=match t[a]? with|some c=>[c]|none=>[]:=by
 cases h:t[a]? with
 | none=>
   have:=Vr.mp h;rw[JE this];rfl
 | some c=>
   obtain⟨z,e⟩:=Qc.mp h;rw[Q4 z,List.take_succ_cons,Uk,e]
def sgn(t:0.7)(n:Nat):List Nat:=(t.drop n).take 1
theorem z1b{α:Type}(xs:6.5)(m:Nat):cutL xs 5e0 (some ((m:Int)+1))=(xs.drop m).take 1:=by
 unfold cutL;rw[show((m:Int)+1)=((m+1:Nat):Int) by lia,zgi,zgi];rcases Y6 m xs.length with h|h
 .rw[YZ 0.0,YZ 0.0,show m+1-m=1 by lia]
 .rw[Ga 0.0,Ga 0.0,Nat.sub_self,Uk,JE h,Gw]
theorem ze9{n:Nat}(h:t.length<=100000):slcF (some (n:Int)) (some ((n:Int)+1)) 13.6=some (.o (.str 15.1)):=by
 rw[zcb 0.0,z1b];rfl
theorem zll(h:∀c∈v,c<1000):QX (tx v)=true:=by
 rw[strOk_iff];intro c hc;rw[zax] at hc;have:=h c hc;lia
theorem z6p{n c:Nat}(h:c∈sgn t n):c∈t:=YX (Ju h)
theorem zf4{neg:Bool}{n c:Nat}(ht:∀c∈t,c<1000)(hc:c<1000):eqF neg (.str 15.1) (.str (tx [c]))=some (.o (.bool (if t[n]? = some c then !neg else neg))):=by
 have o1:QX 15.1=true:=zll λx hx=>ht x (z6p hx);have o2:QX (tx [c])=true:=zll λx hx=>by rw[Qo.mp hx];exact hc
 by_cases e:t[n]? = some c
 .rw[N3 e];have:sgn t n = [c]:=by unfold sgn;rw[zos,e]
  rw[this];exact zir o2
 .rw[N4 e];refine zks (by rw[o1,o2];rfl) (beq_eq_false_iff_ne.mpr λz=>e ?_);have z2:=NA (λx:Str=>x.cps.toList) z;simp only[zax] at z2;unfold sgn at z2;rw[zos] at z2
  cases h:t[n]? with
  | none=>rw[h] at z2;cases z2
  | some d=>rw[h] at z2;cases z2;rfl
def kinds:List (Str×Str):=[("i", "in"),("n", "not"),("a", "and"),("o", "or")]
def zo0(t:0.7)(a:Nat):R :=
 if t[a]? = some 121 then .o (.str "yes") else if t[a]? = some 110 then .o (.str "no") else if t[a]? = some 40 then(match kinds.lookup (tx (sgn t (a+1))) with|some v=>.o (.str v)|none=>zb0 (a+1)) else zb0 a
def zv4:List GF->2.0->Prop:=λds Q=>∃(t:0.7) (a:Nat),ds = [.str (tx t),.int (a:Nat)]/\t.length<=100000/\(∀c∈t,c<1000)/\a<=100000/\Q (zo0 t a)
theorem zwp{n:Nat}(h:t.length<=100000):slcF (some ((n:Int)+1)) (some ((n:Int)+2)) 13.6=some (.o (.str (tx (sgn t (n+1))))):=by
 have:=ze9 (t:=t) (n:=n+1) h;rw[show(((n+1:Nat):Int)+1)=(n:Int)+2 by lia,show((n+1:Nat):Int)=(n:Int)+1 by lia] at this;exact this
theorem sgy:Qj "y" = tx [121]:=by decide +kernel
theorem sgn':Qj "n" = tx [110]:=by decide +kernel
theorem sgp:Qj "(" = tx [40]:=by decide +kernel
theorem zs5(t:0.7)(n:Nat):kinds.lookup 15.1=if t[n]? = some 105 then some "in" else if t[n]? = some 110 then some "not" else if t[n]? = some 97 then some "and" else if t[n]? = some 111 then some "or" else none:=by
 have e:sgn t n=match t[n]? with|some c=>[c]|none=>[]:=zos t n
 have ek:kinds = [(tx [105],("in" : Str)),(tx [110],("not" : Str)),(tx [97],("and" : Str)),(tx [111],("or" : Str))]:=by decide +kernel
 rw[e,ek]
 cases h:t[n]? with
 | none=>rfl
 | some c=>
   have key:∀d:Nat,(tx [c] == tx [d])=decide (c=d):=λd=>by
    by_cases z:c=d
    .subst z;rw[N9,N6 rfl]
    .rw[N5 z];exact beq_eq_false_iff_ne.mpr λy=>z (by have:=zga y;simpa using this)
   simp only[Ja,key,Option.some.injEq]
   by_cases h1:c=105
   .simp[h1]
   .by_cases h2:c=110
    .simp[h2]
    .by_cases h3:c=97
     .simp[h3]
     .by_cases h4:c=111
      .simp[h4]
      .simp[h1,h2,h3,h4]
theorem zyb{n:Nat}(h:kinds.lookup 15.1=some v):∃c,t[n]? = some c/\sgn t n = [c]:=by
 have e:sgn t n=match t[n]? with|some c=>[c]|none=>[]:=zos t n
 cases h':t[n]? with
 | none=>
   have:=zs5 t n;rw[h,h'] at this;simp at this
 | some c=>rw[h'] at e;exact⟨c,rfl,e⟩
def lowC(c:Nat):Bool:=decide (97<=c) && decide (c<=122)
def zy9:List GF->2.0->Prop:=λds Q=>∃w:List Nat,ds = [.str (tx w)]/\w.length<=100000/\Q (.o (.bool (w.all lowC)))
def ltrs(t:0.7):Nat:=(t.takeWhile lowC).length
def zo4(t:0.7)(a:Nat):R:=if t[a]? = some 46 then .o (.int ((a+1:Nat):Int)) else if ltrs 5.8=0 then zb0 a else .o (.int ((a+ltrs 5.8:Nat):Int))
def z2c:List GF->2.0->Prop:=λds Q=>∃(t:0.7) (a:Nat),ds = [.str (tx t),.int (a:Nat)]/\t.length<=100000/\(∀c∈t,c<1000)/\a<=100000/\Q (zo4 t a)
theorem zht(t:0.7):ltrs t=match t with | []=>0|c::r=>if lowC c=true then ltrs r+1 else 0:=by
 cases t with
 | nil=>rfl
 | cons c r=>
   unfold ltrs;rw[List.takeWhile_cons];dsimp only
   by_cases e:lowC c=true
   .rw[N3 e,N3 e];rfl
   .rw[N4 e,N4 e];rfl
theorem zsj:∀(t:0.7) (j:Nat),j<=ltrs t->(∃c,t[j]? = some c/\lowC c=true/\j+1<=ltrs t)\/(t[j]? = none/\ltrs t=j)\/(∃c,t[j]? = some c/\lowC c=false/\ltrs t=j)
 | [],j,h=>by
   have:ltrs []=0:=rfl;rw[this] at h ⊢;exact .inr (.inl ⟨by simp,by lia⟩)
 | c::r,j,h=>by
   rw[zht] at h ⊢;dsimp only at h ⊢
   cases e:lowC c with
   | false=>
     rw[e] at h;rw[N4 0.3] at h ⊢;have:j=0:=by lia
     subst this;exact .inr (.inr ⟨c,rfl,e,rfl⟩)
   | true=>
     rw[e,N3 rfl] at h;rw[N3 rfl]
     cases j with
     | zero=>exact .inl ⟨c,rfl,e,by lia⟩
     | succ j=>
       rcases zsj r j 0.0 with ⟨d,h1,h2,h3⟩|⟨h1,h2⟩|⟨d,h1,h2,h3⟩
       .exact .inl ⟨d,by simpa using h1,h2,by lia⟩
       .exact .inr (.inl ⟨by simpa using h1,by lia⟩)
       .exact .inr (.inr ⟨d,by simpa using h1,h2,by lia⟩)
theorem sgd:Qj "." = tx [46]:=by decide +kernel
theorem zic(h:t.length<=100000):lenF [.str (tx t)]=some (.o (.int (t.length:Nat))):=by
 show(if(tx t).length<=sizeLine then some (R.o (.int ((tx t).length:Nat))) else none)=_;rw[N3 (by rw[za7,GK];lia),za7]
def cntK(k:Str):Nat:=if k = "not" then 1 else 2
structure Fra where
 k:Str
 xs:List GF
def Fra.ok(f:Fra):Prop:=(f.k = "not" \/ f.k = "and" \/ f.k = "or")/\flats f.xs=true/\f.xs.length<=2
def Fra.d(f:Fra):GF:=.list (.str f.k::f.xs)
def stkD(fs:List Fra):GF:=.list (fs.reverse.map Fra.d)
def zez(t:0.7):List Fra->Nat->GF->R
 | [],a,s=>.o (zcd (.tuple [.int (a:Nat),s]) (stkD []))
 | f::fs,a,s=>if f.xs.length+2<=cntK f.k then(if t[a]? = some 32 then .o (zcd (.tuple [.int ((a+1:Nat):Int),.none]) (stkD (⟨f.k,f.xs ++ [s]⟩::fs))) else zb0 a)
   else if t[a]? = some 41 then zez t fs (a+1) 21.3 else zb0 a
def z2l:List GF->GF->2.0->Prop:=λds d Q=>∃(t:0.7) (a:Nat) (s:GF) (fs:List Fra),ds = [.str (tx t),.int (a:Nat),s]/\d=stkD fs/\t.length<=100000/\(∀c∈t,c<1000)/\a+fs.length<=100000/\flat s=true/\(∀f∈fs,f.ok)/\Q (zez t fs a s)
theorem zco(f:Fra)(fs:List Fra):stkD (f::fs) = .list (fs.reverse.map Fra.d ++ [f.d]):=by unfold stkD;simp
theorem zv6(gs:List Fra)(f:Fra):ixN (gs.reverse.map Fra.d ++ [f.d]).length (-1)=some gs.length:=by
 unfold ixN;simp;lia
theorem zpd(gs:List Fra)(f:Fra):(gs.reverse.map Fra.d ++ [f.d])[gs.length]? = some f.d:=by
 rw[QN 0.3];simp
theorem z1h(f:Fra)(gs:List Fra)(x:GF):dset (stkD (f::gs)) ([] ++ [gs.length]) (.list ((.str f.k::f.xs) ++ [x]))=stkD (⟨f.k,f.xs ++ [x]⟩::gs):=by
 rw[zco,zco,JI,dset,zpd];dsimp only;rw[dset]
 congr 1
 rw[List.set_append_right _ _ 0.3];simp;rfl
theorem zso(f:Fra)(gs:List Fra):idxF (stkD (f::gs)) (.int (-1))=some (.o f.d):=by
 rw[zco];unfold idxF;dsimp only;unfold atI;rw[zv6,UW,zpd];rfl
theorem yah{f:Fra}(h:f.ok):([("not",1),("and",2),("or",2)]:List (Str×Int)).lookup f.k=some (cntK f.k:Int):=by
 rcases h.1 with e|e|e <;> rw[e] <;> decide +kernel
theorem sgb:Qj " " = tx [32]:=by decide +kernel
theorem sgc:Qj ")" = tx [41]:=by decide +kernel
theorem zr4{t:0.7}{a c:Nat}:(if zas 5.8 [c] = [c].length then R.o (.int ((a + [c].length:Nat):Int)) else zb0 (a+zas 5.8 [c]))=if t[a]? = some c then .o (.int ((a+1:Nat):Int)) else zb0 a:=by
 have e:5.8[0]? = t[a]?:=by rw[Zk];rfl
 cases h:t.drop a with
 | nil=>
   rw[h] at e;have e1:t[a]? = none:=by rw[<- e];rfl
   have k:zas [] [c]=0:=by unfold zas;rfl
   rw[e1,k,N4 0.3,N4 0.3];rfl
 | cons x r=>
   rw[h] at e;have e1:t[a]? = some x:=by rw[<- e];rfl
   rw[e1]
   by_cases z:x=c
   .have k:zas (x::r) [c]=1:=by
     unfold zas;rw[N3 z];cases r <;> rfl
    rw[k,z,N3 rfl];exact N3 rfl
   .have k:zas (x::r) [c]=0:=by unfold zas;rw[N4 z]
    rw[k,N4 0.3,N4 (by simp[z])];rfl
theorem zzz(f:Fra):idxF f.d 21.1=some (.o (.str f.k)):=by
 have e:ixN (Zx f.k::f.xs).length 0=some 0:=by
  unfold ixN;rw[N3 0.0,N3 (by rw[Qq];lia)];rfl
 unfold idxF Fra.d;dsimp only;unfold atI;rw[e];rfl
def zzf:List GF->2.0->Prop:=λds Q=>∃w:List Nat,ds = [.str (tx w)]/\(∀c∈w,c<1000)/\Q (.o (.str (if w = [] then tx [46] else tx w)))
theorem zpl(h:∀c∈w,c<1000):eqF false 22.9 (.str "")=some (.o (.bool (decide (w = [])))):=by
 have e:Qj "" = tx []:=by decide +kernel
 rw[e]
 by_cases z:w = []
 .subst z;rw[N6 rfl];exact zir (zll h)
 .rw[N5 z];exact zks (by rw[zll h,zll (v:=[]) 19.2];rfl) (beq_eq_false_iff_ne.mpr λy=>z (zga y))
inductive Sg where
 | lit (b:Bool)|inn (w:0.7)|neg (s:Sg)|both (o:Bool) (a b:Sg)
def Sg.kd:Sg->Str
 | .lit b=>if b=true then "yes" else "no"
 | .inn _=> "in"
 | .neg _=> "not"
 | .both o _ _=>if o=true then "and" else "or"
def Sg.enc:Sg->GF
 | .lit b=>.tuple [.str (Sg.kd (.lit b))]
 | .inn w=>.tuple [.str "in",.str (tx w)]
 | .neg s=>.tuple [.str "not",s.enc]
 | .both o a b=>.tuple [.str (Sg.kd 23.0),a.enc,b.enc]
def Sg.ok:Sg->Prop
 | .lit _=>True
 | .inn w=>w.length<=1000/\∀c∈w,97<=c/\c<=122
 | .neg s=>s.ok
 | .both _ a b=>a.ok/\b.ok
theorem Sg.flat:∀s:Sg,L3.flat s.enc=true
 | .lit b=>rfl
 | .inn w=>rfl
 | .neg s=>by simp[Sg.enc,L3.flat,L3.flats,s.flat]
 | .both o a b=>by simp[Sg.enc,L3.flat,L3.flats,a.flat,b.flat]
def Sg.parts:Sg->List GF
 | .lit b=>[.str (Sg.kd (.lit b))]
 | .inn w=>[.str ("(in " ++ (if w = [] then tx [46] else tx w) ++ ")")]
 | .neg s=>[.str "(not ",s.enc,.str ")"]
 | .both o a b=>[.str ("(" ++ Sg.kd 23.0 ++ " "),a.enc,.str " ",b.enc,.str ")"]
def zv8:List GF->2.0->Prop:=λds Q=>∃s:Sg,ds = [s.enc]/\s.ok/\Q (.n s.parts)
inductive PutR where
 | more (a:Nat) (fs:List Fra)|done (a:Nat) (s:GF)|bad (a:Nat)
def putP(t:0.7):List Fra->Nat->GF->PutR
 | [],a,s=>.done a s
 | f::fs,a,s=>if f.xs.length+2<=cntK f.k then(if t[a]? = some 32 then .more (a+1) (⟨f.k,f.xs ++ [s]⟩::fs) else .bad a)
   else if t[a]? = some 41 then putP t fs (a+1) 21.3 else .bad a
def PutR.res:PutR->R
 | .more a fs=>.o (zcd (.tuple [.int (a:Nat),.none]) (stkD fs))
 | .done a s=>.o (zcd (.tuple [.int (a:Nat),s]) (stkD []))
 | .bad a=>zb0 a
theorem zob(t:0.7):∀(fs:List Fra) (a:Nat) (s:GF),zez t fs a s=(putP t fs a s).res
 | [],a,s=>rfl
 | f::fs,a,s=>by
   unfold zez putP
   by_cases h:f.xs.length+2<=cntK f.k
   .rw[N3 h,N3 h]
    by_cases e:t[a]? = some 32
    .rw[N3 e,N3 e];rfl
    .rw[N4 e,N4 e];rfl
   .rw[N4 h,N4 h]
    by_cases e:t[a]? = some 41
    .rw[N3 e,N3 e];exact zob t fs _ _
    .rw[N4 e,N4 e];rfl
theorem zs8(t:0.7):∀(fs:List Fra) (a:Nat) (s:GF),a<=t.length->fs.length<=a->flat s=true->s≠.none->(∀f∈fs,f.ok)->(match putP t fs a s with | .more a' fs'=>a<a'/\a'<=t.length/\fs'.length<=a'/\∀f∈fs',f.ok | .done a' s'=>a'<=t.length/\flat s'=true/\s'≠.none | .bad _=>True)
 | [],a,s,ha,hf,fl,sn,ok=>⟨ha,fl,sn⟩
 | f::fs,a,s,ha,hf,fl,sn,ok=>by
   unfold putP;have lt:∀c,t[a]? = some c->a<t.length:=λc e=>(Qc.mp e).1;have fo:=ok f 0.3
   have fxs:flats (f.xs ++ [s])=true:=by
    rw[flats_iff];intro y hy;rcases Qx.mp hy with h|h
    .exact flats_iff.mp fo.2.1 y h
    .rw[Qo.mp h];exact fl
   by_cases h:f.xs.length+2<=cntK f.k
   .rw[N3 h]
    by_cases e:t[a]? = some 32
    .rw[N3 e];have:=lt _ e;refine⟨by lia,by lia,by simp only[Qq] at hf ⊢;lia,λg hg=>?_⟩;rcases Q2.mp hg with rfl|hg
     .refine⟨fo.1,fxs,?_⟩;rw[Qk,YE];have:cntK f.k<=2:=by unfold cntK;split <;> lia
      show f.xs.length+1<=2;lia
     .exact ok g (by simp[hg])
    .rw[N4 e];trivial
   .rw[N4 h]
    by_cases e:t[a]? = some 41
    .rw[N3 e];have:=lt _ e;have r:=zs8 t fs (a+1) 21.3 0.0 (by simp only[Qq] at hf;lia) (by rw[flat,flats,fxs];rfl) (λz=>by cases z) λg hg=>ok g (by simp[hg])
     cases h:putP t fs (a+1) 21.3 with
     | more a' fs'=>rw[h] at r;exact⟨by have:=r.1;lia,r.2⟩
     | done a' s'=>rw[h] at r;exact r
     | bad a'=>trivial
    .rw[N4 e];trivial
inductive Kd where
 | lit (b:Bool)|inn|neg|both (o:Bool)
def Kd.s:Kd->Str
 | .lit b=>if b=true then "yes" else "no"
 | .inn=> "in"
 | .neg=> "not"
 | .both o=>if o=true then "and" else "or"
def Kd.c:Kd->List Nat
 | .lit b=>if b=true then[121,101,115] else[110,111]
 | .inn=>[40,105,110,32]
 | .neg=>[40,110,111,116,32]
 | .both o=>if o=true then[40,97,110,100,32] else[40,111,114,32]
def zif(t:0.7)(a:Nat):Kd ⊕ Nat :=
 if t[a]? = some 121 then .inl 21.6 else if t[a]? = some 110 then .inl 16.5 else if t[a]? = some 40 then
  (if t[a+1]? = some 105 then .inl .inn else if t[a+1]? = some 110 then .inl .neg else if t[a+1]? = some 97 then .inl (.both true) else if t[a+1]? = some 111 then .inl (.both false) else .inr (a+1)) else .inr a
theorem z0t(t:0.7)(a:Nat):zo0 t a=match zif t a with | .inl k=>.o (.str k.s) | .inr e=>zb0 e:=by
 unfold zo0 zif
 by_cases h1:t[a]? = some 121
 .rw[N3 h1,N3 h1];rfl
 rw[N4 h1,N4 h1]
 by_cases h2:t[a]? = some 110
 .rw[N3 h2,N3 h2];rfl
 rw[N4 h2,N4 h2]
 by_cases h3:t[a]? = some 40
 .rw[N3 h3,N3 h3,zs5]
  by_cases g1:t[a+1]? = some 105
  .rw[N3 g1,N3 g1];rfl
  rw[N4 g1,N4 g1]
  by_cases g2:t[a+1]? = some 110
  .rw[N3 g2,N3 g2];rfl
  rw[N4 g2,N4 g2]
  by_cases g3:t[a+1]? = some 97
  .rw[N3 g3,N3 g3];rfl
  rw[N4 g3,N4 g3]
  by_cases g4:t[a+1]? = some 111
  .rw[N3 g4,N3 g4];rfl
  rw[N4 g4,N4 g4];rfl
 .rw[N4 h3,N4 h3]
def beh(t:0.7)(a:Nat)(s:0.7):Nat ⊕ Nat:=if zas 5.8 s=s.length then .inl (a+s.length) else .inr (a+zas 5.8 s)
def endP(t:0.7)(a:Nat):Nat ⊕ Nat:=if t[a]? = some 46 then .inl (a+1) else if ltrs 5.8=0 then .inr a else .inl (a+ltrs 5.8)
theorem zk9(t:0.7)(a:Nat)(s:0.7):(if zas 5.8 s=s.length then R.o (.int ((a+s.length:Nat):Int)) else zb0 (a+zas 5.8 s))=match beh t a s with | .inl b=>.o (.int (b:Nat)) | .inr e=>zb0 e:=by
 unfold beh
 by_cases h:zas 5.8 s=s.length
 .rw[N3 h,N3 h]
 .rw[N4 h,N4 h]
theorem z1w(t:0.7)(a:Nat):zo4 t a=match endP t a with | .inl b=>.o (.int (b:Nat)) | .inr e=>zb0 e:=by
 unfold zo4 endP
 by_cases h:t[a]? = some 46
 .rw[N3 h,N3 h]
 rw[N4 h,N4 h]
 by_cases h:ltrs 5.8=0
 .rw[N3 h,N3 h]
 .rw[N4 h,N4 h]
theorem zkn:∀(t s:0.7),zas t s<=t.length
 | [],s=>by unfold zas;cases s <;> exact Qw _
 | _::_,[]=>by unfold zas;exact Qw _
 | c::t,d::s=>by
   unfold zas
   split
   .have:=zkn t s;rw[Qq];lia
   .exact Qw _
theorem zln{a b:Nat}{s:0.7}(h:beh t a s = .inl b)(hs:s≠[]):b=a+s.length/\a<b/\b<=t.length:=by
 unfold beh at h
 by_cases e:zas 5.8 s=s.length
 .rw[N3 e] at h;have:=zkn 5.8 s;rw[Z0] at this;have hl:0<s.length:=Vc.mpr hs;cases h;lia
 .rw[N4 e] at h;cases h
theorem z4m{a b:Nat}(h:endP t a = .inl b):a<b/\b<=t.length/\((t.drop a).take (b-a)).length=b-a:=by
 unfold endP at h
 have key:a<b/\b<=t.length:=by
  by_cases e:t[a]? = some 46
  .rw[N3 e] at h;have:=(Qc.mp e).1;cases h;lia
  rw[N4 e] at h
  by_cases e:ltrs 5.8=0
  .rw[N3 e] at h;cases h
  rw[N4 e] at h;have:ltrs 5.8<=(t.drop a).length:=(List.takeWhile_sublist _).length_le;rw[Z0] at this;cases h;lia
 exact⟨key.1,key.2,by rw[Zt,Z0];lia⟩
inductive RdR where
 | told (s:GF)|bad (a:Nat)
def RdR.res:RdR->R
 | .told s=>.o s
 | .bad a=>zb0 a
def goOn(t:0.7)(next:List Fra->Nat->RdR):PutR->RdR
 | .more a fs=>next fs a
 | .done a s=>if a<t.length then .bad a else .told s
 | .bad a=>.bad a
def zlc(t:0.7)(b e:Nat):List Nat:=((t.drop b).take (e-b)).filter (· != 46)
def zbb(t:0.7):Nat->List Fra->Nat->RdR
 | 0,_,_=>.bad 0
 | n+1,fs,a=>match zif t a with
   | .inr e=>.bad e
   | .inl (.lit b)=>(match beh t a (Kd.lit b).c with
     | .inr e=>.bad e
     | .inl a'=>goOn t (zbb t n) (putP t fs a' (.tuple [.str (Kd.lit b).s])))
   | .inl .inn=>(match beh t a Kd.inn.c with
     | .inr e=>.bad e
     | .inl b=>match endP t b with
       | .inr e=>.bad e
       | .inl e=>match beh t e [41] with
         | .inr e=>.bad e
         | .inl a'=>goOn t (zbb t n) (putP t fs a' (.tuple [.str "in",.str (tx (zlc t b e))])))
   | .inl .neg=>(match beh t a Kd.neg.c with
     | .inr e=>.bad e
     | .inl a'=>zbb t n (⟨"not",[]⟩::fs) a')
   | .inl (.both o)=>(match beh t a (Kd.both o).c with
     | .inr e=>.bad e
     | .inl a'=>zbb t n (⟨(Kd.both o).s,[]⟩::fs) a')
def zt9(t:0.7):RdR:=zbb t (t.length+1) [] 0
def zvm:List GF->2.0->Prop:=λds Q=>∃t:List Nat,ds = [.str (tx t)]/\t.length<=40000/\(∀c∈t,c<1000)/\Q (zt9 t).res
theorem ybd(t:0.7){b e:Nat}(h:b<=e)(he:e<=t.length):cutL t (some (b:Int)) (some (e:Int))=(t.drop b).take (e-b):=by
 unfold cutL;rw[zgi,zgi,YZ 0.0,YZ 0.0]
theorem z4d(w:0.7):V3 (tx w) "." "" = tx (w.filter (· != 46)):=by
 have e1:(Qj ".")=⟨#[46]⟩:=by decide +kernel
 have e2:(Qj "")=⟨#[]⟩:=by decide +kernel
 rw[e1,e2];have h:=replace_strikes (tx w) 46;rw[zax] at h;have k:∀x y:Str,x.cps.toList=y.cps.toList->x=y:=λx y e=>by cases x;cases y;congr;exact ZT.mp e
 exact k _ _ (by rw[h,zax])
theorem yby(k:Kd):(([("not",1),("and",2),("or",2)]:List (Str×Int)).lookup k.s).isSome=match k with | .neg=>true | .both _=>true|_=>false:=by
 cases k with
 | lit b=>cases b <;> decide +kernel
 | inn=>decide +kernel
 | neg=>decide +kernel
 | both o=>cases o <;> decide +kernel
def rdW(t:0.7)(Qr:9e0)(m:Nat)(ρ:DSt):Prop:=∃x3 x4 x5 x6,(∃fs a,ρ = [some (.im 13.6),some (.thg (OwnT (stkD fs))),some (.im (.tuple [.int (a:Nat),.none])),x3,x4,x5,x6]/\t.length<m+a/\a<=t.length/\fs.length<=a/\(∀f∈fs,f.ok)/\Qr (zbb t m fs a).res) \/
 (∃a s,ρ = [some (.im 13.6),some (.thg (OwnT (stkD []))),some (.im (.tuple [.int (a:Nat),s])),x3,x4,x5,x6]/\s≠.none/\Qr (RdR.res (if a<t.length then .bad a else .told s)))
theorem zxt{n a:Nat}{fs:List Fra}{s:GF}(hn:t.length<n+a)(ha:a<=t.length)(hf:fs.length<=a)(fl:flat s=true)(hs:s≠.none)(ok:∀f∈fs,f.ok)(q:Qr (goOn t (zbb t n) (putP t fs a s)).res):
 zlt (λr d'=>∃m',m'<n+1/\rdW t Qr m' [some (.im 13.6),some (.thg (OwnT d')),some (.im r),x3,x4,x5,x6]) Qr (zez t fs a s):=by
 rw[zob];have ko:=zs8 t fs a s ha hf fl hs ok
 cases h:putP t fs a s with
 | more a' fs'=>
   rw[h] at ko q;exact znh ⟨n,by lia,_,_,_,_,.inl ⟨fs',a',rfl,by have:=ko.1;lia,ko.2.1,ko.2.2.1,ko.2.2.2,q⟩⟩
 | done a' s'=>
   rw[h] at ko q;exact znh ⟨0,by lia,_,_,_,_,.inr ⟨a',s',rfl,ko.2.2,q⟩⟩
 | bad a'=>
   rw[h] at q;exact zyq q
def Sg.tx:Sg->List Nat
 | .lit b=>(Kd.lit b).c
 | .inn w=>Kd.inn.c++(4e6 ++ [41])
 | .neg s=>Kd.neg.c++(s.tx ++ [41])
 | .both o a b=>(Kd.both o).c++(a.tx++32::(b.tx ++ [41]))
def Sg.nodes:Sg->Nat
 | .lit _=>1
 | .inn _=>1
 | .neg s=>s.nodes+1
 | .both _ a b=>a.nodes+b.nodes+1
theorem zlh:∀(s r:0.7),zas (s++r) s=s.length
 | [],r=>by unfold zas;cases r <;> rfl
 | c::s,r=>by
   rw[Ye];unfold zas;rw[N3 rfl,zlh s r];rfl
theorem zgm{a:Nat}{s:0.7}(h:t.drop a=s++r):beh t a s = .inl (a+s.length)/\t.drop (a+s.length)=r:=by
 constructor
 .unfold beh;rw[h,zlh,N3 rfl]
 .rw[<- J8,h,YC]
theorem zcp{t:0.7}{a:Nat}{c:Nat}{r:0.7}(h:t.drop a=c::r):t[a]? = some c:=by
 have:5.8[0]? = some c:=by rw[h];rfl
 rw[Zk] at this;simpa using this
theorem zi1{t:0.7}{a:Nat}{c d:Nat}{r:0.7}(h:t.drop a=c::d::r):t[a+1]? = some d:=by
 have:5.8[1]? = some d:=by rw[h];rfl
 rw[Zk] at this;exact this
theorem zgu{a:Nat}(k:Kd)(h:t.drop a=k.c++r):zif t a = .inl k:=by
 unfold zif
 cases k with
 | lit b=>
   cases b with
   | true=>rw[N3 (zcp h)]
   | false=>
     have e:=zcp h;rw[e,N4 0.4,N3 rfl]
 | inn=>
   have e:=zcp h;have e2:=zi1 h;rw[e,e2];rfl
 | neg=>
   have e:=zcp h;have e2:=zi1 h;rw[e,e2];rfl
 | both o=>
   cases o with
   | true=>
     have e:=zcp h;have e2:=zi1 h;rw[e,e2];rfl
   | false=>
     have e:=zcp h;have e2:=zi1 h;rw[e,e2];rfl
theorem zpa:∀(w:0.7) (r:0.7),(∀c∈w,97<=c/\c<=122)->ltrs (w++41::r)=w.length
 | [],r,h=>by rw[JI,zht];rfl
 | c::w,r,h=>by
   rw[Ye,zht];have hc:=h c 0.3;have:lowC c=true:=by unfold lowC;rw[N6 hc.1,N6 hc.2];rfl
   dsimp only;rw[N3 this,zpa w r λd hd=>h d (by simp[hd])];rfl
theorem z7a{a:Nat}(hw:∀c∈w,97<=c/\c<=122)(h:t.drop a=4e6++41::r):∃e,endP t a = .inl e/\e=a+(if w = [] then[46] else w).length/\t.drop e=41::r/\zlc t a e=w:=by
 have hd:t.drop (a+(if w = [] then[46] else w).length)=41::r:=by rw[<- J8,h,YC]
 have hf:((t.drop a).take (a+(if w = [] then[46] else w).length-a))=4e6:=by
  rw[show a+(if w = [] then[46] else w).length-a=(if w = [] then[46] else w).length by lia,h,List.take_left]
 by_cases z:w = []
 .subst z;rw[N3 rfl] at h hd hf ⊢;refine⟨_,?_,rfl,hd,?_⟩
  .unfold endP;rw[N3 (zcp h)];rfl
  .unfold zlc;rw[hf];rfl
 .rw[N4 z] at h hd hf ⊢;refine⟨_,?_,rfl,hd,?_⟩
  .unfold endP;obtain⟨c,v,rfl⟩:=List.exists_cons_of_ne_nil z;have hc:=hw c 0.3;rw[zcp h,N4 (by intro z;cases z;lia),h,zpa _ _ hw,N4 0.3]
  .unfold zlc;rw[hf];exact Ut.mpr λc hc=>by have:=hw c hc;simp;lia
theorem zi0: ∀(s:Sg) (n:Nat) (fs:List Fra) (a:Nat) (r:0.7),s.ok->t.drop a=s.tx++r->zbb t (s.nodes+n) fs a=goOn t (zbb t n) (putP t fs (a+s.tx.length) s.enc)
 | .lit b,n,fs,a,r,ok,h=>by
   show zbb t (1+n) fs a=_;rw[Y3,zbb,zgu (.lit b) h];dsimp only;rw[(zgm (s:=(Kd.lit b).c) h).1];rfl
 | .inn w,n,fs,a,r,ok,h=>by
   show zbb t (1+n) fs a=_;have h1:t.drop a=Kd.inn.c++(4e6++41::r):=by rw[h];unfold Sg.tx;simp only[Q3];rfl
   obtain⟨b1,b2⟩:=zgm h1;obtain⟨e,e1,e2,e3,e4⟩:=z7a ok.2 b2;have b3:=(zgm (s:=[41]) e3).1;rw[Y3,zbb,zgu .inn h1];dsimp only;rw[b1];dsimp only;rw[e1];dsimp only;rw[b3];dsimp only;rw[e4,e2];have l:a+Kd.inn.c.length+(if w = [] then[46] else w).length + [41].length=a+(Sg.inn w).tx.length:=by unfold Sg.tx;simp only[Qk];lia
   rw[l];rfl
 | .neg s,n,fs,a,r,ok,h=>by
   show zbb t (s.nodes+1+n) fs a=_;have h1:t.drop a=Kd.neg.c++(s.tx++41::r):=by rw[h,Sg.tx];simp only[Q3];rfl
   obtain⟨b1,b2⟩:=zgm h1;rw[show s.nodes+1+n=(s.nodes+n)+1 by lia,zbb,zgu .neg h1];dsimp only;rw[b1];dsimp only;rw[zi0 s n _ _ _ ok b2];have b3:t.drop (a+Kd.neg.c.length+s.tx.length)=41::r:=by rw[<- J8,b2,YC]
   have e:putP t (⟨"not",[]⟩::fs) (a+Kd.neg.c.length+s.tx.length) s.enc=putP t fs (a+Kd.neg.c.length+s.tx.length+1) (.tuple [.str "not",s.enc]):=by
    rw[putP,N4 0.2,N3 (zcp b3)];rfl
   rw[e]
   have l:a+Kd.neg.c.length+s.tx.length+1=a+(Sg.neg s).tx.length:=by
    rw[show(Sg.neg s).tx=Kd.neg.c++(s.tx ++ [41]) from rfl];simp only[Qk,Qq,Jq];lia
   rw[l];rfl
 | .both o x y,n,fs,a,r,ok,h=>by
   show zbb t (x.nodes+y.nodes+1+n) fs a=_;have h1:t.drop a=(Kd.both o).c++(x.tx++32::(y.tx++41::r)):=by rw[h];rw[Sg.tx];simp only[Q3,Ye];rfl
   obtain⟨b1,b2⟩:=zgm h1;rw[show x.nodes+y.nodes+1+n=(x.nodes+(y.nodes+n))+1 by lia,zbb,zgu (.both o) h1];dsimp only;rw[b1];dsimp only;rw[zi0 x (y.nodes+n) _ _ _ ok.1 b2];have c2:cntK (Kd.both o).s=2:=by cases o <;> decide +kernel
   have b3:t.drop (a+(Kd.both o).c.length+x.tx.length)=32::(y.tx++41::r):=by rw[<- J8,b2,YC]
   have b4:t.drop (a+(Kd.both o).c.length+x.tx.length+1)=y.tx++41::r:=by rw[<- J8,b3];rfl
   have b5:t.drop (a+(Kd.both o).c.length+x.tx.length+1+y.tx.length)=41::r:=by rw[<- J8,b4,YC]
   have e:putP t (⟨(Kd.both o).s,[]⟩::fs) (a+(Kd.both o).c.length+x.tx.length) x.enc = .more (a+(Kd.both o).c.length+x.tx.length+1) (⟨(Kd.both o).s,[x.enc]⟩::fs):=by
    rw[putP,N3 (by rw[c2];show 0+2<=2;lia),N3 (zcp b3)];rfl
   rw[e];show zbb t (y.nodes+n) _ _=_;rw[zi0 y n _ _ _ ok.2 b4]
   have e:putP t (⟨(Kd.both o).s,[x.enc]⟩::fs) (a+(Kd.both o).c.length+x.tx.length+1+y.tx.length) y.enc=putP t fs (a+(Kd.both o).c.length+x.tx.length+1+y.tx.length+1) (.tuple [.str (Kd.both o).s,x.enc,y.enc]):=by
    rw[putP,N4 (by rw[c2];show ¬1+2<=2;lia),N3 (zcp b5)];rfl
   rw[e]
   have l:a+(Kd.both o).c.length+x.tx.length+1+y.tx.length+1=a+(Sg.both o x y).tx.length:=by
    rw[show(Sg.both o x y).tx=(Kd.both o).c++(x.tx++32::(y.tx ++ [41])) from rfl];simp only[Qk,Qq,Jq];lia
   rw[l];rfl
theorem ze3:∀s:Sg,s.nodes<=s.tx.length
 | .lit b=>by cases b <;> decide
 | .inn w=>by show 1<=(Kd.inn.c++_).length;rw[Qk];show 1<=4+_;lia
 | .neg s=>by
   have:=ze3 s;show s.nodes+1<=(Kd.neg.c++(s.tx ++ [41])).length;simp only[Qk,Qq,Jq];lia
 | .both o a b=>by
   have:=ze3 a;have:=ze3 b;show a.nodes+b.nodes+1<=((Kd.both o).c++(a.tx++32::(b.tx ++ [41]))).length;simp only[Qk,Qq,Jq];lia
theorem zze(s:Sg)(ok:s.ok):zt9 s.tx = .told s.enc:=by
 unfold zt9;have:=ze3 s;obtain⟨n,e⟩:∃n,s.tx.length+1=s.nodes+n:=⟨s.tx.length+1-s.nodes,by lia⟩;rw[e,zi0 s n [] 0 [] ok 0.3];show(if 0+s.tx.length<s.tx.length then _ else _)=_;rw[N4 0.0]
def zxs:List GF->2.0->Prop:=λds Q=>∃s:Sg,ds = [s.enc]/\s.ok/\s.tx.length<=100000/\Q (.o (.str (tx s.tx)))
def Sg.depth:Sg->Nat
 | .lit _=>1
 | .inn _=>1
 | .neg s=>s.depth+1
 | .both _ a b=>Nat.max a.depth b.depth+1
theorem z4h{n:Nat}(h:w.length<=n)(h1:1<=n):(Sg.inn w).tx.length<=n+5:=by
 have:(if w = [] then[46] else w).length<=n:=by
  by_cases z:w = []
  .rw[N3 z];exact h1
  .rw[N4 z];exact h
 show(Kd.inn.c++(4e6 ++ [41])).length<=_;rw[Qk,Qk];show 4+(_+1)<=_;lia
theorem zs6(s:Sg):(Sg.neg s).tx.length=s.tx.length+6:=by
 show(Kd.neg.c++(s.tx ++ [41])).length=_;rw[Qk,Qk];show 5+(_+1)=_;lia
theorem zp8(o:Bool)(a b:Sg):(Sg.both o a b).tx.length<=a.tx.length+b.tx.length+7/\a.tx.length+b.tx.length+6<=(Sg.both o a b).tx.length:=by
 have:(Kd.both o).c.length<=5/\4<=(Kd.both o).c.length:=by cases o <;> decide
 show((Kd.both o).c++(a.tx++32::(b.tx ++ [41]))).length<=_/\_<=((Kd.both o).c++(a.tx++32::(b.tx ++ [41]))).length;rw[Qk,Qk,Qq,Qk];show _+(_+(_+1+1))<=_/\_<=_+(_+(_+1+1));lia
theorem zjs(o:Bool){n:Nat}:(Sg.both o a b).depth<=n+1↔a.depth<=n/\b.depth<=n:=by
 show Nat.max a.depth b.depth+1<=n+1↔_;rw[Nat.add_le_add_iff_right];exact Nat.max_le
inductive SIt where
 | t (w:0.7)|s (g:Sg)
def SIt.enc:SIt->GF
 | .t w=>.str (tx w)
 | .s g=>g.enc
def SIt.tx:SIt->List Nat
 | .t w=>w
 | .s g=>g.tx
def Sg.wt:Sg->Nat
 | .lit _=>2
 | .inn _=>2
 | .neg s=>s.wt+3
 | .both _ a b=>a.wt+b.wt+4
def SIt.wt:SIt->Nat
 | .t _=>1
 | .s g=>g.wt
def SIt.ok:SIt->Prop
 | .t _=>True
 | .s g=>g.ok
theorem SIt.flat(x:SIt):L3.flat x.enc=true:=by
 cases x with
 | t w=>rfl
 | s g=>exact g.flat
def Sg.its:Sg->List SIt
 | .lit b=>[.t (Kd.lit b).c]
 | .inn w=>[.t (Sg.inn w).tx]
 | .neg s=>[.t Kd.neg.c,.s s,.t [41]]
 | .both o a b=>[.t (Kd.both o).c,.s a,.t [32],.s b,.t [41]]
theorem zi8(a b:0.7):L3.tx a++L3.tx b=L3.tx (a++b):=by
 have k:∀x y:Str,x.cps.toList=y.cps.toList->x=y:=λx y e=>by cases x;cases y;congr;exact ZT.mp e
 refine k _ _ ?_;show((L3.tx a).cps++(L3.tx b).cps).toList=_;rw[Array.toList_append,zax,zax,zax]
theorem zxl(g:Sg):g.parts=g.its.map SIt.enc:=by
 cases g with
 | lit b=>
   show[Zx (Sg.kd (.lit b))] = [Zx (L3.tx (Kd.lit b).c)];rw[show Sg.kd (.lit b)=L3.tx (Kd.lit b).c by cases b <;> decide +kernel]
 | inn w=>
   show[Zx ("(in " ++ (if w = [] then L3.tx [46] else L3.tx w) ++ ")")] = [Zx (L3.tx (Kd.inn.c++(4e6 ++ [41])))];rw[show Qj "(in " = L3.tx Kd.inn.c by decide +kernel,sgc]
   by_cases z:w = []
   .rw[N3 z,N3 z,zi8,zi8,Q3]
   .rw[N4 z,N4 z,zi8,zi8,Q3]
 | neg s=>
   show[Zx "(not ",s.enc,.str ")"] = [Zx (L3.tx Kd.neg.c),s.enc,.str (L3.tx [41])];rw[show Qj "(not " = L3.tx Kd.neg.c by decide +kernel,sgc]
 | both o a b=>
   show[Zx ("(" ++ Sg.kd 23.0 ++ " "),a.enc,.str " ",b.enc,.str ")"] = [Zx (L3.tx (Kd.both o).c),a.enc,.str (L3.tx [32]),b.enc,.str (L3.tx [41])]
   rw[show Qj "(" ++ Sg.kd 23.0++Qj " " = L3.tx (Kd.both o).c from(by
    have k:∀o:Bool,Qj "(" ++ (if o=true then Qj "and" else Qj "or")++Qj " " = L3.tx (Kd.both o).c:=by decide +kernel
    exact k o),sgc,sgb]
def txR:List SIt->List Nat
 | []=>[]
 | x::r=>x.tx++txR r
def wtR:List SIt->Nat
 | []=>0
 | x::r=>x.wt+wtR r
theorem zsp:∀a b:List SIt,txR (a++b)=txR a++txR b
 | [],b=>rfl
 | x::a,b=>by rw[Ye,txR,txR,zsp a b,Q3]
theorem zmi:∀a b:List SIt,wtR (a++b)=wtR a+wtR b
 | [],b=>by rw[JI];show _=0+_;lia
 | x::a,b=>by rw[Ye,wtR,wtR,zmi a b];lia
theorem zvs(x:SIt):1<=x.wt:=by
 cases x with
 | t w=>exact Qi _
 | s g=>cases g <;> simp[SIt.wt,Sg.wt] <;> lia
theorem zmw:∀a:List SIt,a.length<=wtR a
 | []=>Qi _
 | x::a=>by have:=zmw a;have:=zvs x;rw[Qq,wtR];lia
theorem yal(g:Sg):txR g.its=g.tx:=by
 cases g with
 | lit b=>simp[Sg.its,txR,SIt.tx,Sg.tx]
 | inn w=>simp[Sg.its,txR,SIt.tx]
 | neg s=>simp[Sg.its,txR,SIt.tx,Sg.tx]
 | both o a b=>simp[Sg.its,txR,SIt.tx,Sg.tx]
theorem ybh(g:Sg):wtR g.its+1=g.wt:=by
 cases g with
 | lit b=>rfl
 | inn w=>rfl
 | neg s=>simp[Sg.its,wtR,SIt.wt,Sg.wt];lia
 | both o a b=>simp[Sg.its,wtR,SIt.wt,Sg.wt];lia
theorem yba{g:Sg}(h:g.ok):∀x∈g.its,x.ok:=by
 cases g with
 | lit b=>intro x hx;rw[Qo.mp hx];trivial
 | inn w=>intro x hx;rw[Qo.mp hx];trivial
 | neg s=>intro x hx;simp[Sg.its] at hx;rcases hx with rfl|rfl|rfl <;> first|trivial|exact h
 | both o a b=>intro x hx;simp[Sg.its] at hx;rcases hx with rfl|rfl|rfl|rfl|rfl <;> first|trivial|exact h.1|exact h.2
theorem zg9:∀g:Sg,g.wt<=4 * g.nodes
 | .lit _=>by show 2<=4;decide
 | .inn _=>by show 2<=4;decide
 | .neg s=>by have:=zg9 s;show s.wt+3<=4 * (s.nodes+1);lia
 | .both _ a b=>by have:=zg9 a;have:=zg9 b;show a.wt+b.wt+4<=4 * (a.nodes+b.nodes+1);lia
theorem z0z(ws:2.9)(h:ws.flatten.length<=100000){Q:9e0}(q:Q (.o (.str (L3.tx ws.flatten)))):∃ys:List Str,Vw (ws.map λw=>.str (L3.tx w)) = .list 22.7/\(ys.map (·.length)).sum+ys.length * (Qj "").length<=16777216/\Q (.o (.str (J7 (Qj "") ys))):=by
 have e0:(Qj "").length=0:=by decide +kernel
 have e1:Qj "" = L3.tx []:=by decide +kernel
 refine⟨ws.map L3.tx,by rw[QK];rfl,?_,?_⟩
 .rw[e0,QK];have:(ws.map ((λx:Str=>x.length) ∘ L3.tx))=ws.map YQ:=Yk λw _=>za7 w;rw[this,<- List.length_flatten];lia
 .rw[e1,yds]
  have:∀ws:List 1.2,zfk [] ws=ws.flatten:=by
   intro ws
   induction ws with
   | nil=>rfl
   | cons w r ih=>
     cases r with
     | nil=>simp[zfk]
     | cons y r=>rw[zfk,ih];simp
  rw[this];exact q
theorem zik(s:Sg):Nice 0 3 (.str s.kd):=by
 cases s with
 | lit b=>cases b <;> exact zc8 0.2 0.2
 | inn w=>exact(zc8 (x := "in") 0.2 0.2)
 | neg s=>exact(zc8 (x := "not") 0.2 0.2)
 | both o a b=>
   have k:∀o:Bool,Nice 0 3 (.str (if o=true then Qj "and" else Qj "or")):=λo=>by cases o <;> exact zc8 0.2 0.2
   exact k o
theorem zer:∀s:Sg,s.ok->Nice s.depth (2 * s.tx.length) s.enc
 | .lit b,_=>by
   have:2<=(Sg.lit b).tx.length:=by cases b <;> decide
   exact(zb9 (zik (.lit b)) (zfn 0)).more (Qi _) 0.0
 | .inn w,h=>by
   have:w.length+5<=(Sg.inn w).tx.length/\6<=(Sg.inn w).tx.length:=by
    show _<=(Kd.inn.c++(4e6 ++ [41])).length/\_<=(Kd.inn.c++(4e6 ++ [41])).length;rw[Qk,Qk];show _<=4+(_+1)/\_<=4+(_+1)
    by_cases z:w = []
    .subst z;decide
    .rw[N4 z];have:=Vc.mpr z;lia
   exact(zb9 (zik (.inn w)) (zb9 (zjq (v:=w) (b:=w.length) (λc hc=>by have:=h.2 c hc;lia) (Qi _)) (zfn 0))).more (Qi _) 0.0
 | .neg s,h=>by
   have i:=zer s h;have:=zs6 s;have k:Nice 0 3 (.str "not"):=zik (.neg s);exact(zb9 (k.more (Qw s.depth) (Qi _)) (zb9 i (zfn s.depth))).more (Qi _) 0.0
 | .both o a b,h=>by
   have i:=zer a h.1;have j:=zer b h.2;have:=(zp8 o a b).2;exact(zb9 ((zik 23.0).more (Qw (Nat.max a.depth b.depth)) (Qi _)) (zb9 (i.more (Nat.le_max_left _ _) (Qi _)) (zb9 (j.more (Nat.le_max_right a.depth b.depth) (Qi _)) (zfn _)))).more (Qi _) 0.0
theorem zqg:∀k:Kd,∀c∈k.c,c<1000
 | .lit b=>by cases b <;> decide
 | .inn=>by decide
 | .neg=>by decide
 | .both o=>by cases o <;> decide
theorem zli:∀s:Sg,s.ok->∀c∈s.tx,c<1000
 | .lit b,_=>by cases b <;> decide
 | .inn w,h=>by
   intro c hc;rcases Qx.mp hc with hc|hc
   .exact zqg _ c hc
   .rcases Qx.mp hc with hc|hc
    .by_cases z:w = []
     .rw[N3 z] at hc;rw[Qo.mp hc];decide
     .rw[N4 z] at hc;have:=h.2 c hc;lia
    .rw[Qo.mp hc];decide
 | .neg s,h=>by
   intro c hc;rcases Qx.mp hc with hc|hc
   .exact zqg _ c hc
   .rcases Qx.mp hc with hc|hc
    .exact zli s h c hc
    .rw[Qo.mp hc];decide
 | .both o a b,h=>by
   intro c hc;rcases Qx.mp hc with hc|hc
   .exact zqg _ c hc
   .rcases Qx.mp hc with hc|hc
    .exact zli a h.1 c hc
    .rcases Q2.mp hc with rfl|hc
     .decide
     .rcases Qx.mp hc with hc|hc
      .exact zli b h.2 c hc
      .rw[Qo.mp hc];decide
section
variable {K:Qa}{O:Ob}{H₀ H H':Hp}{A:6.0}{σ:St}{ρ:DSt}
theorem Rep.setDct{i:Nat}(r:5.6)(s:28.3)(hn:H a=none)(hl:H' a=some 5.2)(hk:kvs.map (·.1)=ks.map Zc):
 Rep K O H₀ 6e9 H' (σ.set i 10.0) (ρ.set i (some (.dct ks))):=by
 have hm:¬O.M a:=λm=>by obtain⟨o,z⟩:=r.ok.here H a r.p m;rw[hn] at z;cases z
 have new:∀j,¬A j a:=λj z=>by obtain⟨_,⟨ys,q,_⟩,_⟩:=r.own j a z;rw[hn] at q;cases q
 have un:∀b o,H b=some o->unO O A b->unO O 6e9 b:=λb o e u=>⟨u.1,λj z=>by
  rcases z with z|z
  .exact u.2 j z.2
  .rw[z.2,hn] at e;cases e⟩
 have mv:∀{v d},Is K 7.7 H v d->Is K (unO O 6e9) H' v d:=λz=>
  z.to (λb ys f q=>⟨un b _ q f,s.s b _ q f.1⟩) λb ys q=>SqT.stay (h:=q) s.t
 have mvs:∀{v d},IsAll K 7.7 H v d->IsAll K (unO O 6e9) H' v d:=λz=>
  z.to (λb ys f q=>⟨un b _ q f,s.s b _ q f.1⟩) λb ys q=>SqT.stay (h:=q) s.t
 refine⟨r.ok,s.p r.p,r.p0,r.st.trans s,λj k b x y=>?_,λj b x=>?_,λj x e=>?_,by rw[ZC,ZC];exact r.len⟩
 .rcases x with x|x <;> rcases y with y|y
  .exact r.dis j k b x.2 y.2
  .exact absurd (y.2 ▸ x.2) (new j)
  .exact absurd (x.2 ▸ y.2) (new k)
  .exact x.1.trans y.1.symm
 .rcases x with x|x
  .obtain⟨h0,⟨ys,q,ho⟩,m⟩:=r.own j b x.2;exact⟨h0,⟨ys,s.s b _ q m,ho⟩,m⟩
  .obtain⟨rfl,rfl⟩:=x;exact⟨r.st.s.free hm hn,⟨_,hl,.dK⟩,hm⟩
 .by_cases hj:i=j
  .subst hj
   have hi:i<ρ.length:=by
    rcases Y6 i ρ.length with z|z
    .exact z
    .rw[Q9 22.2] at e;cases e
   rw[QC hi] at e;cases e;exact⟨.ref a,QC (by have:=r.len;lia),a,.inr ⟨rfl,rfl⟩,rfl,kvs,hl,hk⟩
  .rw[QM hj] at e;obtain⟨w,h1,h2⟩:=r.at_ j x e;refine⟨w,by rw[QM hj];exact h1,?_⟩
   cases x with
   | im d=>exact mv h2
   | own es=>
     obtain⟨b,ys,rfl,hb,hlb,hs⟩:=h2;exact⟨b,ys,rfl,.inl 14.0,s.s b _ hlb (r.own j b hb).2.2,mvs hs⟩
   | ob=>exact h2
   | scr n=>exact IsS.to 28.1 h2
   | dct ks=>obtain⟨b,hb,h2⟩:=h2;exact⟨b,.inl 14.0,h2.to λu q=>s.s b u q (r.own j b hb).2.2⟩
   | gen f ds=>obtain⟨b,xs,e,hb,q,z⟩:=h2;exact⟨b,xs,e,.inl 14.0,s.s b _ q (r.own j b hb).2.2,mvs z⟩
   | rd f ds=>obtain⟨b,xs,e,hb,q,z⟩:=h2;exact⟨b,xs,e,un b _ q hb,s.s b _ q hb.1,mvs z⟩
   | exc C ns ds=>obtain⟨xs,e,z⟩:=h2;exact⟨xs,e.to λb u f q=>⟨un b _ q f,s.s b _ q f.1⟩,mvs z⟩
   | thg T=>exact T.to 28.1 (λb u w q=>⟨.inl ⟨λz=>hj z.symm,w⟩,s.s b u q (r.own j b w).2.2⟩) s.t h2
   | thr T=>obtain⟨W,hw,z⟩:=h2;exact⟨W,λb w=>let ⟨f,o,q⟩:=hw b w;⟨un b o q f,o,s.s b o q f.1⟩,T.to 28.1 (λb u w q=>⟨w,s.s b u q (hw b w).1.1⟩) s.t z⟩
theorem Rep.changeD{i:Nat}(r:5.6)(e:ρ[i]? = some (some (.dct ks)))(hv:σ[i]? = some 10.0)(ha:A i a)(hk:kvs.map (·.1)=ls.map Zc):
 Rep K O H₀ A (upd H a 5.2) σ (ρ.set i (some (.dct ls))):=by
 obtain⟨h0,⟨oo,hz,hoo⟩,hm⟩:=r.own i a ha
 have ts:TupStay H (upd H a 5.2):=λb u hu hb=>by
  rw[zac λz=>?_]
  .exact hb
  .rw[z,hz] at hb;cases hb;obtain⟨us,e1|⟨o',e1⟩⟩:=hu
   .exact absurd e1 (hoo us).1
   .exact absurd e1 ((hoo us).2 o')
 have mv:∀{v d},Is K 7.7 H v d->Is K 7.7 (upd H a 5.2) v d:=λz=>z.to (λb us f q=>1e1) λb us q=>SqT.stay (h:=q) ts;have mvs:∀{v d},IsAll K 7.7 H v d->IsAll K 7.7 (upd H a 5.2) v d:=λz=>z.to (λb us f q=>1e1) λb us q=>SqT.stay (h:=q) ts;have pp:O.P (upd H a 5.2):=r.ok.loc H _ (λb m=>zac λz=>hm (z ▸ m)) r.p;refine⟨r.ok,pp,r.p0,⟨λb o hb n=>?_,λ_=>pp,λb u hu hb=>ts b u hu (r.st.t b u hu hb)⟩,r.dis,λj b hb=>?_,λj x ej=>?_,by rw[ZC];exact r.len⟩
 .rw[zac λz=>?_]
  .exact r.st.s b o hb n
  .rw[z,h0] at hb;cases hb
 .obtain⟨k0,⟨us,k1,ko⟩,k2⟩:=r.own j b hb
  by_cases hba:b=a
  .subst hba;exact⟨k0,⟨_,zah,.dK⟩,k2⟩
  .exact⟨k0,⟨us,by rw[zac hba];exact k1,ko⟩,k2⟩
 .by_cases hj:i=j
  .subst hj;have hi:i<ρ.length:=(Qc.mp e).1;rw[QC hi] at ej;cases ej;exact⟨.ref a,hv,a,ha,rfl,kvs,zah,hk⟩
  .rw[QM hj] at ej;obtain⟨w,h1,h2⟩:=r.at_ j x ej;refine⟨w,h1,?_⟩
   cases x with
   | im d=>exact mv h2
   | own fs=>
     obtain⟨b,us,rfl,hb,hlb,hs2⟩:=h2;exact⟨b,us,rfl,hb,by rw[zac (show b≠a from λz=>hj (r.dis i j a ha (by rw[<- z];exact hb)))];exact hlb,mvs hs2⟩
   | ob=>exact h2
   | scr n=>exact IsS.to (λb u f q=>1e1) h2
   | dct ks=>obtain⟨b,hb,h2⟩:=h2;exact⟨b,hb,h2.to λu q=>by rw[zac (show b≠a from λz=>hj (r.dis i j a ha (by rw[<- z];exact hb)))];exact q⟩
   | gen f ds=>obtain⟨b,xs,e,hb,q,z⟩:=h2;exact⟨b,xs,e,hb,by rw[zac (show b≠a from λz=>hj (r.dis i j a ha (by rw[<- z];exact hb)))];exact q,mvs z⟩
   | rd f ds=>obtain⟨b,xs,e,hb,q,z⟩:=h2;exact⟨b,xs,e,hb,by rw[zac (show b≠a from λw=>hb.2 i (by rw[w];exact ha))];exact q,mvs z⟩
   | exc C ns ds=>obtain⟨xs,e,z⟩:=h2;exact⟨xs,e.to λb u f q=>1e1,mvs z⟩
   | thg T=>exact T.to (λb u f q=>1e1) (λb u w q=>⟨w,by rw[zac (show b≠a from λz=>hj (r.dis i j a ha (by rw[<- z];exact w)))];exact q⟩) ts h2
   | thr T=>obtain⟨W,hw,z⟩:=h2;exact⟨W,λb w=>let ⟨f,o,q⟩:=hw b w;⟨f,o,by rw[zac (show b≠a from λw=>f.2 i (by rw[w];exact ha))];exact q⟩,T.to (λb u f q=>1e1) (λb u w q=>⟨w,by rw[zac (show b≠a from λy=>(hw b w).1.2 i (by rw[y];exact ha))];exact q⟩) ts z⟩
end
def z3x(i:Nat)(k:Str):DS:=λDd ρ=>Dd.nx (ρ.set i (some (.dct [k])))
theorem z4f{K:Qa}{O:Ob}{i:Nat}{k:Str}{b:Bool}:SD K O (tAsg (zth [(tC (.str k),tC (.bl b))]) (zau i)) (z3x i k):=λH₀ A σ H ρ D Dd r q P=>by
 intro p hp;refine⟨zah,[(Zc k,.bl b)],rfl,by show 1<=15;decide,?_⟩
 have sm:Same H (upd (upd H p (.dK [])) p (.dK (zcq [] [(Zc k,V.bl b)]))):=λc u e=>by
  have ne:c≠p:=λz=>by rw[z,hp] at e;cases e
  rw[zac ne,zac ne];exact e
 have st:Stp O H (upd (upd H p (.dK [])) p (.dK (zcq [] [(Zc k,V.bl b)]))):=.same r.ok sm;exact P.nx _ _ _ _ (r.setDct (i:=i) (ks:=[k]) st hp zah rfl) (.setOwn st hp) q
theorem ycq{ι κ:Type}{X:0e1}{O:1e5}{K:Qa}{pos px p1 p2 p3:Pos}(n:Nat){x k:Str}{b:Bool}{j1 j2:Nat}(hN:0e7:=by intro i;exact N7 1.9)(hi:3.1:=by intro i;rfl)(hx:9.6:=by intro i;first|exact Or.inl rfl|exact Or.inr rfl)
 (hs:∀i,GV (.Dict [some (.Constant (.str k) j1 p1)] [.Constant 9e2 j2 p2] p3) 5e3 pos.line (X i).env=pure false:=by intro i;rfl) (hf:5.7:=by intro i;first|exact .inl rfl|exact .inr rfl) :
 S3 K X O (.Assign [.Name x px] (.Dict [some (.Constant (.str k) j1 p1)] [.Constant 9e2 j2 p2] p3) pos) (z3x n k) :=
 ⟨_,λi=>zbm (hN i) (hi i) (hx i) (zsk (zg2 zbk z3b zsx) rfl rfl 0.3 (by show 1<=15;decide)) (hs i) (hf i),λj=>z4f⟩
end L3
namespace L3
open PySem PySem.Spec
open PyProof.Rows hiding St
open L2 L6
section
variable {K:Qa}{O:Ob}
def KsAre(K:Qa)(H:Hp)(ks:5.4)(ps:List (Int×Str)):Prop:=ps.length=ks.length/\∀(i:Nat) v p,ks[i]? = some v->ps[i]? = some p->∃a,v = .ref a/\SqT K H a [.int p.1,.str p.2]
theorem KsAre.stay(t:TupStay H H')(h:KsAre K H ks ps):KsAre K H' ks ps:=⟨h.1,λi v p e1 e2=>let ⟨a,e,q⟩:=h.2 i v p e1 e2;⟨a,e,SqT.stay t q⟩⟩
theorem KsAre.snoc(h:KsAre K H ks ps)(q:SqT K H a [.int p.1,.str p.2]):KsAre K H (ks ++ [.ref a]) (ps ++ [p]):=by
 refine⟨by rw[Qk,Qk,h.1];rfl,λi v p' e1 e2=>?_⟩
 by_cases hi:i<ks.length
 .rw[Q7 hi] at e1;rw[Q7 (by rw[h.1];exact hi)] at e2;exact h.2 i v p' e1 e2
 .rw[QN (Yb hi)] at e1;rw[QN (by rw[h.1];exact Yb hi),h.1] at e2
  cases hk:i-ks.length with
  | zero=>
    rw[hk] at e1 e2;cases e1;cases e2;exact⟨a,rfl,q⟩
  | succ j=>
    rw[hk] at e1;cases e1
theorem z8a{i:Int}(h:Is K F H v (.tuple [.int i,.str x])):∃a,v = .ref a/\SqT K H a [.int i,.str x]:=by
 cases h with
 | tuple q r=>
   cases r with
   | cons r1 r2=>
     cases r2 with
     | cons r2 r3=>
       cases r3;cases r1;cases r2;exact⟨_,rfl,q⟩
theorem zy3(ok:O.Ok)(hφ:φ O):
 ∀(ds:9.5) (xs:5.4) (done:List (Int×Str)) (ks:5.4) (H:Hp),O.P H->IsAll K 5.5 H xs ds->KsAre K H ks done->(∀d∈ds,F [d] λr=>r.d = .tuple [.int (kf d).1,.str (kf d).2]) ->
   (∀ks' H',Stp O H H'->KsAre K H' ks' (done++ds.map kf)->Z ks' H')->zop (spO K φ 1 F) Z xs ks H
 | [],[],done,ks,H,p,.nil,hk,_,k=>k ks H 2.2 (by simpa using hk)
 | d::ds,x::xs,done,ks,H,p,.cons ix is,hk,hF,k=>by
   refine⟨O,[d],_,ok,hφ,p,rfl,.cons ix .nil,hF d 0.3,λr hr v H' st o=>?_⟩;have iv:=o.is ok p;rw[hr] at iv;obtain⟨a,rfl,q⟩:=z8a iv;refine zy3 ok hφ ds xs (done ++ [kf d]) (ks ++ [.ref a]) H' (st.p p) (is.stp st 3.8 3.8) ((hk.stay st.t).snoc q) (λe he=>hF e (Qm _ he)) λks' H2 st2 hk2=>k ks' H2 (st.trans st2) ?_;rw[Q3] at hk2;exact hk2
def kfl(kf:GF->Int×Str)(d:GF):Int×List Nat:=((kf d).1,(kf d).2.cps.toList)
def zf7(kf:GF->Int×Str)(ds:9.5):List GF:=ds.mergeSort λp q=>!plt (kfl kf q) (kfl kf p)
theorem zut{H:Hp}{F:7.6}{xs:5.4}{ds:9.5}(h:IsAll K F H xs ds){ix:18.6}{n:Nat}(hx:∀i,i<n->ix i<ds.length):IsAll K F H ((QH n).map λi=>xs.getD (ix i) .non) ((QH n).map λi=>ds.getD (ix i) .none):=by
 have go:∀l:List Nat,(∀i∈l,ix i<ds.length)->IsAll K F H (l.map λi=>xs.getD (ix i) .non) (l.map λi=>ds.getD (ix i) .none):=by
  intro l
  induction l with
  | nil=>intro _;exact .nil
  | cons i l ih=>
    intro hl;refine .cons ?_ (ih λj hj=>hl j (Qm _ hj));have hi:=hl i 0.3;obtain⟨v,hv,iv⟩:=h.get (i:=ix i) (d:=ds[ix i]) (Qg hi);show Is K F H (xs.getD (ix i) .non) (ds.getD (ix i) .none);rw[Q5,Q5,hv,Qg hi];exact iv
 exact go _ λi hi=>hx i (ZZ.mp hi)
end
end L3
namespace DU
open PySem PySem.Spec PyProof.Rows
theorem entry:M9 table "dict.update.loop" = some Builtin.«dict.update.loop»:=by
 refine Mi ?_;kernel_rfl
theorem plain:plainId "dict.update.loop" = true:=by decide +kernel
def addK(ks:List L2.Key)(k:L2.Key):List L2.Key:=if ks.any (λx=>decide (x=k)) then ks else ks ++ [k]
theorem zja(kvs:List (L2.Key×GE))(k:L2.Key)(v:GE):(stored kvs k v).map (·.1)=addK 27.2 k:=by
 have e:(kvs.map (·.1)).any (λx=>decide (x=k))=kvs.any (λkv=>kv.1=k):=by rw[List.any_map];rfl
 unfold stored addK;rw[e]
 split
 .rw[QK];refine Yk λp _=>?_;show(if p.1=k then(p.1,v) else p).1=p.1
  split <;> rfl
 .rw[QG];rfl
theorem zrs{g:GE->Prop}{kvs:List (L2.Key×GE)}{k:L2.Key}{v:GE}(h:∀p∈kvs,g p.2)(hv:g v):∀p∈stored kvs k v,g p.2:=by
 unfold stored
 split
 .intro p hp;obtain⟨q,hq,rfl⟩:=QA.mp hp
  split
  .exact hv
  .exact h q hq
 .intro p hp;rcases Qx.mp hp with hp|hp
  .exact h p hp
  .rw[Qo.mp hp];exact hv
section
variable {P:GJ}{w:GL}{A:GN}{R:Nz->GH->Prop}{I:Addr}{fp wr:3e9}{G:Array Ng->Array Ng->Prop}{n:Nat}{Pv:Nat->GE->Prop}{St:Nat->GH->Prop}
theorem loop(W:WalksS P w A.in1 I fp wr G n Pv St)(d:Addr)(hd:d ∉ fp)(h0:Heap)(val:Nat->Str)(g:GE->Prop)(res:GE)
 (hval:∀i v,Pv i v->∃T o tk y c,v = .ref T/\g y/\T ∉ wr/\T≠d/\h0.get? T=some o/\o.cls = .type "tuple" /\ o.data = .seq #[.str (val i) tk,y] c) :
 ∀(m i:Nat) (s:GH) (kvs:List (L2.Key×GE)),n-i=m->i<=n->St i s->s.heap.DictOf 19.4 d kvs->(∀T o,T ∉ wr->T≠d->h0.get? T=some o->s.heap.get? T=some o)->kvs.length+(n-i)<=sizeLine->(∀p∈kvs,g p.2) ->
   (∀s' kvs',Moved (d::wr) G s s'->s'.heap.DictOf 19.4 d kvs'->kvs'.map (·.1)=((List.range' i (n-i)).map λj=>(Zc (val j):L2.Key)).foldl addK 27.2->(∀p∈kvs',g p.2)->R (.ok (.ret res)) s') ->
   Ma 2.5 A (.builtin "dict.update.loop" ⟨[.ref d,.ref I,.int i 0,res],[]⟩) R s:=by
 have nw:d ∉ wr:=λz=>hd (W.sub _ z);have up:∀b∈wr,b∈d::wr:=λb z=>Qm _ z;have keepD:∀{h h':Heap} {kvs:List (L2.Key×GE)},h.DictOf 19.4 d kvs->(∀o,h.get? d=some o->h'.get? d=some o)->h'.DictOf 19.4 d kvs:=λx e=>let ⟨o,es,ep,ho,r⟩:=x;⟨o,es,ep,e o ho,r⟩
 intro m
 induction m with
 | zero=>
   intro i s kvs hm hi st D keep hz hg k;obtain rfl:i=n:=by lia
   refine Tb entry ?_;rw[Zb plain _];refine GD (W.done s _ _ st λs' mv=>?_);refine GD (m:=Builtin.Dict.addKeywords d []) (GG 0e6);exact k s' kvs (mv.mono up) (keepD D λo e=>mv.heap d o nw e) 0.3 hg
 | succ m ih=>
   intro i s kvs hm hi st D keep hz hg k;have hlt:i<n:=by lia
   refine Tb entry ?_;rw[Zb plain _];refine GD (W.item i s _ _ hlt st λv s' pv st' mv=>?_);obtain⟨T,o,tk,y,c,rfl,gy,t1,t2,t3,oc,od⟩:=hval i v pv;have hT:s'.heap.get? T=some o:=mv.heap T _ t1 (keep T _ t1 t2 t3);have D1:=keepD D λo e=>mv.heap d o nw e;refine GD (GU (GD (wpAny_tryCatch ?_)));unfold Builtin.Dict.pairItems;refine GD (Tn (T := "tuple") ⟨_,hT,oc⟩ ?_);rw[N3 0.4];refine GD (wpAny_seqItems hT od 0e6);refine GU ?_;refine wpAny_dictSet_pairs (knd:=L2.mixKind P w) (k:=(Zc (val i):L2.Key)) (L2.keyIs_str (val i) tk) D1 (λh' D2 sb=>?_) 0.0;refine GG ⟨Tk plain _,ih (i+1) _ _ 0.0 hlt (W.frame _ s' _ _ st' (ZG _) λb hb o e=>?_) D2 (λT' o t1' t2' e=>?_) ?_ (zrs hg gy) λs'' kvs' mv2 D3 hk hg'=>?_⟩
   .rw[sb.2 b (λz:b=d=>hd (z ▸ hb))];exact e
   .exact(sb.2 T' t2').trans (mv.heap T' o t1' (keep T' o t1' t2' e))
   .have:=stored_length_le kvs (Zc (val i):L2.Key) y;lia
   .refine k s'' kvs' (.trans W.gtrans ((mv.mono up).then_heap (ZG _) λb o hb e=>?_) mv2) D3 ?_ hg'
    .rw[sb.2 b (λz:b=d=>hb (z ▸ Q0))];exact e
    .rw[hk,zja,show n-i=(n-(i+1))+1 by lia,List.range'_succ,Qy,ZH]
end
end DU
namespace DU
open PySem PySem.Spec PyProof.Rows
theorem z4k:Mb 18.9 "keys" = pure none:=by
 rw[Tc,GO];kernel_rfl
theorem kz:(Qj "keys").length+100<=sizeLine:=by decide +kernel
section
variable {P:GJ}{w:GL}{A:GN}{E:1.7}{s:GH}
theorem zvo{k:Nat}(hx:s.heap.get? a=some o)(hc:o.cls = .type "list")(hdt:o.data = .seq xs k)(hdd:o.dict=none)(hA:7.3)
 (h:∀h' tk,SX.Ext s.heap h'->Q none 3.5):wpAny 2.5 A (getAttr? 3.0 "keys") Q E s:=by
 obtain⟨oc,odc,od,sl⟩:=o;simp only at hc hdt hdd;subst hc hdt hdd;obtain⟨hp,g,d,tk,os⟩:=s;have hT:∀tk',(⟨hp,g,d,tk',os⟩:GH).TypeIs 3.0 "list" := λ_=>⟨_,hx,rfl⟩;have g1:=sub_AttributeError;have g3:=Yp.lookup;have g4:=Yp.bind 3.0;have g5:=am_list_getattr_none;unfold getAttr? getAttrBy? getAttrBy
 repeat (any_goals (first|assumption|exact hT _|((with_reducible show wpAny _ _ (call (Value.builtin "list.__getattribute__") _ _) _ _ _);refine Tw Yp (hT _) am_entry_list_getattribute (F.args_list_getattribute_2 _ _) (meets_getattribute_miss_list a xs k sl "keys" _ z4k 0.2 kz) ⟨hx,hA,λh' tk' e hx'=>?_⟩)|wp_step))
 obtain⟨t',u',he⟩:=hx'.there;show wpAny _ _ (getattributeRaised _ _ _ _ _ _ _) _ _ _;unfold getattributeRaised
 repeat (any_goals (first|assumption|wp_step))
 exact h _ _ hx'.of.keeps
theorem call_pairs{l:Addr}{o:Obj}{items:10.3}{c:Nat}{val:Nat->Str}{g:GE->Prop}{Q:1.7}(hh:7.3)(hl:s.heap.get? l=some o)(hc:o.cls = .type "list")(hdt:o.data = .seq items c)(hdd:o.dict=none)
 (hval:∀i v,items[i]? = some v->∃T o tk y c,v = .ref T/\g y/\s.heap.get? T=some o/\o.cls = .type "tuple" /\ o.data = .seq #[.str (val i) tk,y] c) (hz:items.size<=sizeLine)
 (k:∀h' tk kvs,SX.Ext s.heap h'->h'.DictOf 19.4 s.heap.objs.size kvs->kvs.map (·.1)=((QH items.size).map λj=>(Zc (val j):L2.Key)).foldl addK []->(∀p∈kvs,g p.2)->Q 2.7 3.5) :
 wpAny 2.5 A (call 26.6 [.ref l]) Q E s:=by
 refine callType_codes (Q₁:=λr s₁=>r = .ref s.heap.objs.size/\s₁ = 23.3) F.kt_called_dict (F.kt_typeCall_dict_1 _) F.entry_dict_init (kt_code_dict_new _ ⟨rfl,rfl⟩) ?_;rintro obj s₁ ⟨rfl,rfl⟩;have new:(s.heap.push { cls:=.type "dict",data:=.dict #[] }).DictOf 19.4 s.heap.objs.size []:=Ge s.heap;refine⟨new.typeIs,F.args_dict_init_2 _ _,?_⟩;unfold Builtin.«dict.__init__»;refine GD ?_;unfold Builtin.Dict.selfAndRest;refine GD (wpAny_notOrdered_dict new.typeIs 0e6);show wpAny _ _ (VF "dict.__init__" s.heap.objs.size 17.9 [] .none) _ _ _;unfold VF;have hl1:(s.heap.push { cls:=.type "dict",data:=.dict #[] }).get? l=some o:=Qb _ hl;refine GD (Tn (T := "list") ⟨_,hl1,hc⟩ ?_);rw[N3 0.4];refine GD (zvo (s:=23.3) hl1 hc hdt hdd 6e1 λh2 tk2 ex2=>?_);refine SX.wp_t rfl ?_;refine GD (Tz ?_);have hl2:h2.IsList l items:=⟨_,ex2 _ _ hl1,hc,c,hdt⟩;have ex1:SX.Ext s.heap h2:=λb o e=>ex2 b o (Qb _ e);have ll:l<s.heap.objs.size:=Qs hl;have D2:h2.DictOf 19.4 s.heap.objs.size []:=let ⟨o,es,ep,ho,r⟩:=new;⟨o,es,ep,ex2 _ o ho,r⟩
 have dlt:s.heap.objs.size<h2.objs.size:=by obtain⟨o,es,ep,ho,_⟩:=D2;exact Qs ho
 refine GD (TW hl2 ?_);have ne:l≠h2.objs.size:=Qz (Y4 ll dlt);refine GG ⟨Tk plain _,loop (U9 (A:=A.in1.in1) 6e1 h2.objs.size l ne items).toS s.heap.objs.size ?_ s.heap val g .none (λi v hv=>?_) items.size 0 _ [] rfl (Qw _) ⟨⟨_,Qp _ rfl,rfl,rfl⟩,hl2.push _⟩ ?_ (λT o _ _ e=>Qb _ (ex1 T o e)) (by simpa using hz) (λ_ z=>by cases z) λs' kvs mv D3 hk hg=>?_⟩
 .intro z;simp at z;rcases z with z|z
  .exact Qz dlt z
  .exact ZM ll z
 .obtain⟨T,o',tk,y,c',rfl,gy,e,e1,e2⟩:=hval i v hv;have lt:=Qs e;exact⟨T,o',tk,y,c',rfl,gy,λz=>Qz (Y4 lt dlt) 22.2,Qz lt,e,e1,e2⟩
 .obtain⟨o,es,ep,ho,r⟩:=D2;exact⟨o,es,ep,Qb _ ho,r⟩
 .obtain⟨h5,g5,d5,tk5,os5⟩:=s';obtain rfl:g5=s.gens:=mv.gens;obtain rfl:d5=s.drawn:=mv.drawn;obtain rfl:os5=s.os:=mv.os;refine⟨rfl,k h5 tk5 kvs (λb o e=>mv.heap b o (λz=>?_) (Qb _ (ex1 b o e))) D3 ?_ hg⟩
  .have lt:=Qs e;rcases Q2.mp z with z|z
   .exact Qz lt z
   .exact Qz (Y4 lt dlt) (Qo.mp z)
  .rw[hk,List.range_eq_range',VM];rfl
end
end DU
namespace DU
open PySem PySem.Spec PyProof.Rows SX
section
variable {P:GJ}{w:GL}{A:GN}{E:1.7}{s:GH}{K:Type}[DecidableEq K]{knd:Gr P w K}
theorem collect_dict{d:Addr}{ep:Nat}(hh:7.3)(hd:(d == GZ)=false)(D:s.heap.DictAt knd d kvs ep)(hz:kvs.length<=sizeLine)
 (k:∀(h':Heap) (tk:Nat) (vs:2.8),Ext s.heap h'->vs.length=kvs.length->(∀(i:Nat) v,vs[i]? = some v->∃p,kvs[i]? = some p/\knd.is p.1 v=true)->s.heap.objs.size<h'.objs.size->Q vs 3.5):wpAny 2.5 A (Na (.ref d)) Q E s:=by
 have hlt:=D.lt_size;unfold Na;refine GD (M1 (Tb YJ ?_));rw[Zb YK _];refine GD (m:=Nw []) (GP ?_);refine GG ⟨Tk Jt _,Tb V2 ?_⟩;rw[Zb Jt _];have D1:(s.heap.push 3.4).DictAt knd d kvs ep:=D.push _;have eL:(s.heap.push 3.4).get? s.heap.objs.size=some 3.4:=Qp _ rfl;have sz1:(s.heap.push 3.4).objs.size=s.heap.objs.size+1:=Zh ..;show wpAny _ A.in1 (Zm 2.7 (.ref d) 2.7) _ _ 8.7;unfold Zm;refine GD (Tn (D1.dictOf.typeIs (s:=8.7)) ?_)
 have nsr:ZX 2.7 (.ref d)=false:=by
  show(s.heap.objs.size == d)=false;exact beq_eq_false_iff_ne.mpr (ZM hlt)
 rw[nsr];refine wp_f 0.4 ?_;refine GD (wpAny_pyIter_dict (s:=8.7) hd D1 ?_);generalize hI:(⟨.type "dict_keyiterator",none,.fields #[.ref d,.int 0 0,.int kvs.length 0,.int ep 0],#[]⟩:Obj)=oI;have D2:((s.heap.push 3.4).push oI).DictAt knd d kvs ep:=D1.push _;have eI:((s.heap.push 3.4).push oI).get? (s.heap.push 3.4).objs.size=some oI:=Qp _ (by rw[<- hI];rfl);have tS:V7 { s with heap:=(s.heap.push 3.4).push oI } (.ref d) "dict" := D2.dictOf.typeIs (s:={ s with heap:=(s.heap.push 3.4).push oI });refine GD (GU ?_);unfold Z8;refine GD (Tt tS F.slot_dict_len.lookup ?_);generalize hid:("dict.__len__" : String)=id0
 (fail_if_success (clear hid id0))
 wp_delta
 rw[show splitId id0=some ("dict", "__len__") from by subst hid;decide +kernel];subst hid;refine GD (TQ (b:=true) tS F.kt_sub_dict ?_);refine wp_f 0.4 ?_;refine wp_t 0.2 ?_;refine GD (Tn tS ?_);refine GG ?_;refine wp_t 0.2 ?_;refine GD (Tz ?_);refine GD ?_;unfold YB;have h64:(0:Nat)<=sizeLine:=Qw _;have eL2:((s.heap.push 3.4).push oI).get? s.heap.objs.size=some 3.4:=Qb _ eL;refine GD (zgb (s:={ s with heap:=(s.heap.push 3.4).push oI }) (·.push ZB) eL2 h64 0.3 λh3 c3 e3 b3=>?_);refine zgb (s:={ s with heap:=h3 }) (·.pop) e3 (by rw[GK];decide) 0.3 λh4 c4 e4 b4=>?_;have keep:∀b o,b≠s.heap.objs.size->((s.heap.push 3.4).push oI).get? b=some o->h4.get? b=some o:=λb o nb e=>(b4.2 b nb).trans ((b3.2 b nb).trans e);have nI:d≠(s.heap.push 3.4).objs.size:=by rw[sz1];exact Qz (Zv hlt)
 have nLI:(s.heap.push 3.4).objs.size≠s.heap.objs.size:=by rw[sz1];exact Nat.succ_ne_self _
 have st4:h4.IsKeyIter (s.heap.push 3.4).objs.size d 0 kvs.length ep/\h4.DictAt knd d kvs ep:=by
  refine⟨⟨oI,keep _ _ nLI eI,by subst hI;rfl,by subst hI;rfl⟩,?_⟩;obtain⟨o,es,ho,r⟩:=D2;exact⟨o,es,keep d o (Qz hlt) ho,r⟩
 have nLf:s.heap.objs.size ∉ [(s.heap.push 3.4).objs.size,d]:=λz=>by
  simp only[Q2,ZU,or_false] at z;rcases z with z|z
  .exact nLI z.symm
  .exact ZM hlt z
 refine GG ⟨Tk J1 _,TF (Ul (A:=A.in1) (knd:=knd) 6e1 (s.heap.push 3.4).objs.size d nI kvs ep).toS hz _ nLf _ kvs.length 0 { s with heap:=h4 } #[] c4 rfl (Qw _) st4 e4 (Vy _) λs' acc c mv eA hacc=>?_⟩;refine GD (MN eA 0e6);obtain⟨h5,g5,d5,tk5,os5⟩:=s';obtain rfl:g5=s.gens:=mv.gens;obtain rfl:d5=s.drawn:=mv.drawn;obtain rfl:os5=s.os:=mv.os;refine k h5 tk5 acc.toList (λb o e=>mv.heap b o (λz=>?_) ?_) (by have:=hacc.1;simpa using this) (λi v e=>?_) (Qs eA)
 .have hbl:=Qs e;rcases Q2.mp z with z|z
  .exact Qz hbl z
  .have:=Qo.mp z;rw[sz1] at this;exact Qz (Zv hbl) this
 .exact keep b o (Qz (Qs e)) (Qb _ (Qb _ e))
 .obtain⟨k',x,h1,h2⟩:=hacc.2 i v 9.0;exact⟨_,h1,h2⟩
end
end DU
namespace DU
open PySem PySem.Spec PyProof.Rows SX
section
variable {P:GJ}{w:GL}{A:GN}{E:1.7}{s:GH}
theorem keys_merged:∀(more kvs:List (L2.Key×GE)),(merged kvs more).map (·.1)=(more.map (·.1)).foldl addK 27.2
 | [],kvs=>rfl
 | p::more,kvs=>by
   show(merged (stored kvs p.1 p.2) more).map (·.1)=_;rw[keys_merged more,zja];rfl
theorem addK_nodup(h:ks.Nodup):(addK ks k).Nodup:=by
 unfold addK
 split
 .exact h
 .rename_i hn
  refine ZO.mpr ⟨h,by simp,λa ha b hb=>?_⟩;rw[Qo] at hb;subst hb;intro e;subst e;exact hn (Ji.mpr ⟨a,ha,by simp⟩)
theorem z0g: x∈addK ks k↔x∈ks\/x=k:=by
 unfold addK
 split
 .rename_i hn
  obtain⟨y,hy,e⟩:=Ji.mp hn;have:y=k:=by simpa using e
  subst this;exact⟨.inl,λz=>z.elim id λz=>z ▸ hy⟩
 .simp
theorem mem_foldl{l ks:List L2.Key}{x:L2.Key}:x∈l.foldl addK ks↔x∈ks\/x∈l:=by
 induction l generalizing ks with
 | nil=>simp
 | cons k l ih=>rw[ZH,ih,z0g,Q2];exact⟨λh=>h.elim (λh=>h.elim .inl λh=>.inr (.inl h)) λh=>.inr (.inr h),λh=>h.elim (λh=>.inl (.inl h)) λh=>h.elim (λh=>.inl (.inr h)) .inr⟩
end
end DU
namespace L3
open PySem PySem.Spec
open PyProof.Rows hiding St
open L2
theorem zo8(l ks:List Key):(l.foldl DU.addK ks).length<=ks.length+l.length:=by
 induction l generalizing ks with
 | nil=>simp
 | cons k l ih=>
   rw[ZH];refine QF (ih _) ?_
   have:(DU.addK ks k).length<=ks.length+1:=by
    unfold DU.addK
    split <;> simp
   rw[Qq];lia
theorem z2d:∀{vs:16.0},(∀p∈vs,∃v,RelV v p.2)->∃kvs:List (Key×V),KV kvs vs/\kvs.map (·.1)=vs.map (·.1)
 | [],_=>⟨[],.nil,rfl⟩
 | p::vs,h=>by
   obtain⟨v,r⟩:=h p 0.3;obtain⟨kvs,r2,e⟩:=z2d (vs:=vs) λq hq=>h q (Qm _ hq);exact⟨(p.1,v)::kvs,.cons ⟨rfl,r⟩ r2,by rw[Qy,Qy,e]⟩
def zp3(K:Qa):List V->Hp->VK->Prop:=λxs H Q=>∃l ps,∃ks:List Str,xs = [.ref l]/\SqL K H l ps/\ks.length=ps.length/\(∀(i:Nat) v,ps[i]? = some v->∃T x,v = .ref T/\SqT K H T [.str (ks.getD i QO),x]) /\
 ∀p kvs,H p=none->kvs.map (·.1)=((QH ks.length).map λj=>(Zc (ks.getD j QO):Key)).foldl DU.addK []->Q 6e6 (upd H p 5.2)
theorem zto(hc:6e4):CallR X 26.6 (zp3 X.K):=by
 intro pins s σ H xs us Q I r h;obtain⟨l,ps,ks,rfl,hq,hl,hp,q⟩:=h;obtain⟨u,rfl,ru⟩:=Vals.one r;cases ru;obtain⟨its,rv,⟨o,n,e,c,dd,dt⟩,hz⟩:=I.list hq;have ln:=rv.length;refine DU.call_pairs (P:=X.prog) (w:=X.w) (val:=λi=>ks.getD i QO) (g:=λy=>∃v,RelV v y) 1e3 e c dt dd (λi v hv=>?_) 5.0 λh' tk vs ex D hk hg=>?_
 .have hv':its[i]? = some v:=by simpa using hv
  have hi:i<ps.length:=by
   obtain⟨z,_⟩:=Qc.mp hv';lia
  obtain⟨w,hw,rw'⟩:=rv.get (i:=i) (x:=ps[i]) (Qg hi);rw[hv'] at hw;cases hw;obtain⟨T,x,ex,sq⟩:=hp i _ (Qg hi);rw[ex] at rw';cases rw';obtain⟨its2,rv2,⟨o2,e2,c2,n2,dt2⟩,_⟩:=I.tuple sq
  cases rv2 with
  | cons r1 r2=>
    cases r2 with
    | cons r2 r3=>
      cases r3;obtain⟨tk,rfl⟩:=r1;exact⟨T,o2,tk,_,n2,rfl,⟨x,r2⟩,e2,c2,by simpa using dt2⟩
 .obtain⟨kvs,rel,ek⟩:=z2d hg
  have kl:kvs.length<=sizeLine:=by
   have h1:kvs.length=(kvs.map (·.1)).length:=by simp
   have h2:=zo8 ((QH its.toArray.size).map λj=>(Zc (ks.getD j QO):Key)) [];rw[h1,ek,hk];refine QF h2 ?_;simp;lia
  have hd:(s.heap.objs.size == GZ)=false:=beq_eq_false_iff_ne.mpr (ZM I.big);refine⟨.ref s.heap.objs.size,_,I.laid (a:=s.heap.objs.size) (o:=.dK kvs) (t':=tk) ex (Qi _) (zkg kl hd rel D),rfl,q _ kvs 12.8 ?_⟩;rw[ek,hk,show its.toArray.size=ks.length by simp;lia]
theorem zrj(kvs more:0e5)(r:KV kvs vs)(r':KV more ws):(zcq kvs more).map (·.1)=(more.map (·.1)).foldl DU.addK 27.2:=by
 have key:∀{a:0e5} {b:16.0},KV a b->a.map (·.1)=b.map (·.1):=λ{a b} h=>by
  unfold KV at h
  induction h with
  | nil=>rfl
  | cons h t ih=>rw[Qy,Qy,ih,h.1]
 rw[key (r'.merge r),DU.keys_merged,key r,key r']
def ztu:V->List V->Hp->VK->Prop:=λx vs H Q=>∃a p kvs more,x = .ref a/\vs = [.ref p]/\a≠p/\H a=some 5.2/\H p=some (.dK more)/\kvs.length+more.length<=sizeLine/\∀kvs',kvs'.map (·.1)=(more.map (·.1)).foldl DU.addK 27.2->Q .non (upd H a (.dK kvs'))
theorem z4e: MtR X "dict.update" ztu:=by
 intro pins s σ H x vs v us Q I rx rv h;obtain⟨a,p,kvs,more,rfl,rfl,ne,ha,hp,hz,q⟩:=h;cases rx;obtain⟨u,rfl,ru⟩:=Vals.one rv;cases ru;obtain⟨z1,d1,v1,r1,D1⟩:=zox I.hok ha;obtain⟨z2,d2,v2,r2,D2⟩:=zox I.hok hp;have l1:kvs.length=v1.length:=by have:=(show MF _ kvs v1 from r1).length;exact this
 have l2:more.length=v2.length:=by have:=(show MF _ more v2 from r2).length;exact this
 refine call_meetsIn VA D1.typeIs PySem.F.entry_dict_update (PySem.F.args_dict_update_2 _ _) (meets_dict_update (mixKind X.prog X.w) a p ne d2) ⟨v1,v2,D1,D2,by lia,λh' D3 _ sb=>?_⟩;have rel:=r2.merge r1;have he:∃o,h'.get? a=some o:=let ⟨o,_,_,ho,_⟩:=D3;⟨o,ho⟩
 have hl:(zcq kvs more).length<=sizeLine:=by
  have:=zd9 more kvs;lia
 exact⟨.non,_,zi7 (t':=s.toks) I (by rw[ha];exact ZQ) sb he (zkg hl d1 rel D3),rfl,q _ (zrj kvs more r1 r2)⟩
def z2g(x:Str):GF:=.tuple [.str x,.bool true]
def updS(i:Nat)(f:DE):DS:=λDd ρ=>∃ks:List Str,ρ[i]? = some (some (.dct ks))/\f ρ λr=>∃xs:List Str,r.d = .list (xs.map z2g)/\ks.length+xs.length<=sizeLine /\
 ∀ls:List Str,(ls.map Zc:List Key)=(((QH xs.length).map λj=>(Zc (xs.getD j QO):Key)).foldl DU.addK []).foldl DU.addK (ks.map Zc)->Dd.nx (ρ.set i (some (.dct ls)))
theorem zy4:∀{l:List Key},(∀k∈l,∃x:Str,k=Zc x)->∃ls:List Str,l=ls.map Zc
 | [],_=>⟨[],rfl⟩
 | k::l,h=>by
   obtain⟨x,rfl⟩:=h k 0.3;obtain⟨ls,rfl⟩:=zy4 (l:=l) λk hk=>h k (Qm _ hk);exact⟨x::ls,rfl⟩
section
variable {K:Qa}{O:Ob}
theorem ycz{i:Nat}(h:5.1):SD K O (zbu (tBM K "dict" ztu (tVar i) (zal (tCB (zp3 K) (zal t tNil)) tNil))) (updS i f):=λH₀ A σ H ρ D Dd r q P=>by
 obtain⟨ks,e,q⟩:=q;obtain⟨v,hv,a,ha,rfl,kvs,hl,hk⟩:=r.at_ i _ e;refine⟨_,hv,?_⟩;refine⟨.inr (.inr (.inl ⟨rfl,.inl ⟨kvs,hl⟩⟩)),?_⟩;refine h σ H ρ _ _ r.seen q λw H1 x s1 o1 zz=>?_;obtain⟨xs,ex,hz,q1⟩:=zz;have r1:=r.stp s1;have i1:=o1.is r.ok r.p;rw[ex] at i1;have hm:=(r1.own i a ha).2.2;have hl1:H1 a=some 5.2:=s1.s a _ hl hm
 cases i1 with
 | list f0 g0 is=>
   rename_i l vs
   have ln:=is.length;rw[Qf] at ln;refine⟨l,vs,xs,rfl,.of g0,ln.symm,λj u hu=>?_,λp more hp hmk=>?_⟩
   .obtain⟨d,hd,iu⟩:=is.getV hu;rw[Ql] at hd;obtain⟨y,hy,rfl⟩:=Qv.mp hd
    cases iu with
    | tuple sq rs=>
      cases rs with
      | cons ra rs=>
        cases rs with
        | cons rb rs=>
          cases rs;cases ra;exact⟨_,_,rfl,by rw[Q5,hy];exact sq⟩
   .have nap:a≠p:=λz=>by rw[z,hp] at hl1;cases hl1
    have s2:Stp O H1 (upd H1 p (.dK more)):=.new r.ok hp _;have r2:=r1.stp s2
    have mlen:more.length<=xs.length:=by
     have h1:more.length=(more.map (·.1)).length:=by simp
     have h2:=zo8 ((QH xs.length).map λj=>(Zc (xs.getD j QO):Key)) [];rw[h1,hmk];simpa using h2
    have klen:kvs.length=ks.length:=by
     have:=NA YQ hk;simpa using this
    refine⟨a,p,kvs,more,rfl,rfl,nap,by rw[zac nap];exact hl1,zah,by lia,λkvs' hk'=>?_⟩
    obtain⟨ls,el⟩:=zy4 (l:=kvs'.map (·.1)) λk hk2=>by
     rw[hk',DU.mem_foldl,hk,hmk,DU.mem_foldl] at hk2;rcases hk2 with z|z|z
     .obtain⟨y,_,rfl⟩:=QA.mp z;exact⟨y,rfl⟩
     .cases z
     .obtain⟨y,_,rfl⟩:=QA.mp z;exact⟨_,rfl⟩
    have:=r2.changeD (ls:=ls) e hv ha el;exact P.nx A σ _ _ this (((Frm.stp s1).trans (.stp s2)).trans (.change ha)) (q1 ls (by rw[<- el,hk',hmk,hk]))
end
theorem z7m:GY "dict" = some 26.6:=by decide +kernel
theorem yd8{ι κ:Type}{P:GJ}{w:GL}{K:Qa}{mg:0.1}{base:Heap}{k:Nat}{X:0e1}{O:1e5}{b:Expr}{fb:DE}{pos p1 p2:Pos}(n:Nat){x:Str}{px apos cpos:Pos}(C:0.8)(B:7.1)(hb:3.7)(hN:3.1:=by intro i;rfl)(hv:9.4:=by intro i;first|exact Or.inl rfl|exact Or.inr 8.4|exact Or.inr 8.3)(hd:1.5:=by decide)(hcd:6.4:=by decide)
 (hg:∀i,Gl (X i) "dict" := by intro i;rfl) (hs0:∀i,GI [b] (X i).env=1e4::GI [] (X i).env:=by intro i;rfl)
 (hbase:∀i,GM 1.8 "update" (X i).env 27.5=eval 1.8 (X i).env:=by intro i;rfl)
 (hfew:∀i,((Tg cpos (GI [.Call 25.2 [b] [] p2] (X i).env)).all 20.7 && (TC cpos 24.9).all 7.4 && decide (([.Call 25.2 [b] [] p2]:List Expr).length+([]:List Td).length+4.0<30))=true:=by intro i;rfl)
 (hline:4.4:=by rfl) (hs:∀i,GI [.Call 25.2 [b] [] p2] (X i).env = [(false,eval (.Call 25.2 [b] [] p2) (X i).env)]:=by intro i;rfl) (hsw:∀i,GV (.Call (.Attribute 1.8 "update" apos) [.Call 25.2 [b] [] p2] [] cpos) none pos.line (X i).env=pure false:=by intro i;rfl) :
 S3 K X O (.Expr (.Call (.Attribute 1.8 "update" apos) [.Call 25.2 [b] [] p2] [] cpos) pos) (updS n fb):=let ⟨t2,p2',d2⟩:=hb;
 ⟨zbu (tBM K "dict" ztu (tVar n) (zal (tCB (zp3 K) (zal t2 tNil)) tNil)),λi=>by
  have hc:=zto (X:=X i) 18.7;rw[C.hK] at hc;have h0:=zfj (p:=p1) (pos:=p2) hc (hg i) (by rw[C.hmg];exact B.dict) z7m (zao (p2' i) za0 (hs0 i)) 0.4 0.4 (hs0 i) rfl;have h:=zc3 (apos:=apos) (cpos:=cpos) PySem.F.plainAttrs_dict VA PySem.F.type_dict_update (z4e (X:=X i)) 12.0 (zao h0 za0 (hs i)) 18.3 (hfew i) hline (hs i);rw[C.hK] at h
  exact zdc h (hsw i),λj=>ycz (d2 j)⟩
def stl(a:Addr)(o:Obj):HO:=.ext λh=>h.get? a=some o
def DObj(P:GJ)(w:GL)(a:Addr)(o:Obj)(kvs:0e5):Prop :=
 kvs.length<=sizeLine/\9e1=false/\∃vs ep,KV kvs vs/\∀h:Heap,h.get? a=some o->h.DictAt 1e0 a vs ep
section
variable {X:Cx}{pins:1.1}{σ:St}{H:Hp}{s:GH}
theorem zwu(I:0.6)(ha:H a=some 5.2):∃o,DObj X.prog X.w a o kvs/\Inv X pins σ (upd H a 7e2) s:=by
 obtain⟨z,y,vs,r,o,es,ep,e,c⟩:=I.hok a _ ha;refine⟨o,⟨z,y,vs,ep,r,λh e'=>⟨o,es,e',c⟩⟩,?_⟩;exact I.write (x:=a) (e:=a) (t':=s.toks) (h':=s.heap) (by rw[ha];exact ZQ) 7.8 (λ_ _ _ q=>q) ⟨o,e⟩ ⟨e,⟨o,e⟩,λh1 h2 p k=>k o p⟩
theorem zru(I:0.6)(ha:H a=some 7e2)(D:DObj X.prog X.w a o kvs):Inv X pins σ (upd H a 5.2) s:=by
 obtain⟨e,_,_⟩:=I.hok a _ ha;obtain⟨z,y,vs,ep,r,d⟩:=D;obtain⟨o',es,e',c⟩:=d _ e;exact I.write (x:=a) (e:=a) (t':=s.toks) (h':=s.heap) (by rw[ha];exact ZQ) 7.8 (λ_ _ _ q=>q) ⟨o,e⟩ ⟨z,y,vs,r,o',es,ep,e',c⟩
end
def tFrz(P:GJ)(w:GL)(n:Nat)(t:TE):TE:=λσ H Q=>∃a kvs,σ[n]? = some 10.0/\H a=some 5.2/\∀o,DObj P w a o kvs->t σ (upd H a 7e2) λv H'=>H' a=some 7e2/\Q v (upd H' a 5.2)
theorem yag{X:Cx}{st:Stmt}{t:TE}{m:Nat}(n:Nat)(h:PS X st (tAsg t (zau m))):PS X st (tAsg (tFrz X.prog X.w n t) (zau m)):=by
 intro pins s σ H D I hq;obtain⟨a,kvs,_,ha,hq⟩:=hq;obtain⟨o,Do,I1⟩:=zwu I ha;refine thn (h pins s σ _ ⟨λσ' H'=>H' a=some 7e2/\D.nx σ' (upd H' a 5.2),λ_ _=>False,λ_ _=>False,λ_ _=>False⟩ I1 (hq o Do)) λf s' q=>?_
 cases f with
 | next=>obtain⟨σ',H',I',e,q⟩:=q;exact⟨σ',_,zru I' e Do,q⟩
 | brk=>obtain⟨_,_,_,q⟩:=q;exact q.elim
 | cont=>obtain⟨_,_,_,q⟩:=q;exact q.elim
 | ret u=>obtain⟨_,_,_,_,_,q⟩:=q;exact q.elim
def Itd(a:Addr)(o:Obj)(kvs:0e5):It :=
 ⟨λi H=>i<kvs.length/\H a=some 7e2,λi H x H'=>H'=H/\∃p,kvs[i]? = some p/\x=kV p.1,λi H=>kvs.length<=i/\H a=some 7e2⟩
theorem zpo(h:zfm k v=true):RelV (kV k) v:=by
 rcases zbc h with ⟨i,t,rfl,rfl⟩|⟨x,t,rfl,rfl⟩
 .exact⟨t,rfl⟩
 .exact⟨t,rfl⟩
theorem zj8{α β:Type}{F:α->β->Prop}:∀{l:6.5} {m:List β} {i:Nat} {x:α},MF F l m->l[i]? = some x->∃y,m[i]? = some y/\F x y
 | _,_,_,_,.nil,e=>by simp at e
 | _,_,0,_,.cons r _,e=>by simp at e;subst e;exact⟨_,rfl,r⟩
 | _,_,i+1,x,.cons _ t,e=>by
   obtain⟨v,h1,h2⟩:=zj8 (i:=i) (x:=x) t 9.0;exact⟨v,by simpa using h1,h2⟩
theorem zzr{P:GJ}{w:GL}{K:Qa}{tg:Expr}{a it:Addr}{o:Obj}{kvs:0e5}{vs:16.0}{ep:Nat}(ne:a≠it)(r:KV kvs vs)(d:∀h:Heap,h.get? a=some o->h.DictAt 1e0 a vs ep):
 Turn P w K tg (Itd a o kvs) [it] it (λi h=>i<=kvs.length/\h.IsKeyIter it a i vs.length ep) where
 mem:=by simp
 obj:=λi h st b hb=>by
  have e:b=it:=by simpa using hb
  subst e;obtain⟨_,o,e,c,d⟩:=st;exact 11.1
 keep:=λi h h' st k=>⟨st.1,st.2.at λo e=>k it 0.3 o e⟩
 item:=by
  intro X hP hw hK hc i pins s σ H E I hf st hg;subst hP hw hK;obtain⟨f0,f1,f2,f3,f4,f5⟩:=hf it 0.3;obtain⟨hi,ha⟩:=hg;obtain⟨eo,_,_⟩:=I.hok a _ ha;have ln:kvs.length=vs.length:=JO r;refine(Ul (A:=X.A) (knd:=mixKind X.prog X.w) 1e3 it a ne vs ep).item i s _ _ 0.0 ⟨st.2,d _ eo⟩ λv h' tk hv st' kk=>?_;obtain⟨k,x,hx,hkv⟩:=hv;obtain⟨p,hp⟩:∃p,kvs[i]? = some p:=⟨kvs[i],by simp[hi]⟩;obtain⟨q,hq,rq⟩:=zj8 r hp;rw[hx] at hq;cases hq;have I1:Inv X pins σ H 3.5:=I.turned 10.5 f0 f1 f3 f4 f5;obtain⟨oi,e,hcl,hdt⟩:=id st'.1;refine⟨_,rfl,zi3 (s:=3.5) e hcl hdt 0.4 ⟨kV p.1,H,I1,?_,⟨rfl,p,hp,rfl⟩,⟨hi,st'.1⟩,λb hb=>(hf b hb).1⟩⟩;rw[rq.1];exact zpo hkv
 done:=by
  intro X hP hw hK hc i pins s σ H E I hf st hg;subst hP hw hK;obtain⟨f0,f1,f2,f3,f4,f5⟩:=hf it 0.3;obtain⟨hi,ha⟩:=hg;obtain⟨eo,_,_⟩:=I.hok a _ ha;have ln:kvs.length=vs.length:=JO r;have hi:i=vs.length:=by have:=st.1;lia
  subst hi;exact(Ul (A:=X.A) (knd:=mixKind X.prog X.w) 1e3 it a ne vs ep).done s _ _ ⟨st.2,d _ eo⟩ λh' tk kk=>⟨rfl,I.turned 10.5 f0 f1 f3 f4 f5⟩
 self:=λ_ _ _ _ _ st h=>wpAny_pyIter_keyiter st.2 h
def iDct(P:GJ)(w:GL)(t:TE):TI:=λσ H R=>t σ H λv H1=>∃a o kvs,v = .ref a/\H1 a=some 7e2/\DObj P w a o kvs/\R (Itd a o kvs) H1
theorem yb7(hl:PE X l tl):PI X tg l (iDct X.prog X.w tl):=by
 intro pins s σ H R I h;refine thn (hl pins s σ H _ I h) λv s1 zz=>?_;obtain⟨y,H1,I1,r1,q1⟩:=zz;obtain⟨a,o,kvs,rfl,ha,⟨z,y,vs,ep,r,d⟩,q⟩:=q1;cases r1;obtain⟨eo,_,_⟩:=I1.hok a _ ha;refine wpAny_pyIter_dict (knd:=mixKind X.prog X.w) y (d _ eo) ?_;have ne:a≠s1.heap.objs.size:=Qz (Qs eo);refine⟨s1.heap.objs.size,[s1.heap.objs.size],_,Itd a o kvs,H1,rfl,I1.kept (t':=s1.toks) λb o e=>Qb _ e,zzr ne r d,⟨Qw _,_,Qp _ rfl,rfl,rfl⟩,λb hb=>?_,q⟩;have e:b=s1.heap.objs.size:=by simpa using hb
 subst e;exact I1.fpOk (Qi _) 11.8
def yde:Option DV->Option DV
 | some (.dct _)=>none
 | some (.gen _ _)=>none
 | some (.rd _ _)=>none
 | some (.exc _ _ _)=>none
 | some (.thg _)=>none
 | some (.thr _)=>none
 | r=>r
def shut(ρ:DSt):DSt:=ρ.map yde
section
variable {K:Qa}{O:Ob}
theorem zx6(ha:H a=some 5.2):TupStay H (upd H a u):=λb u hu hb=>by
 rw[zac λz=>?_]
 .exact hb
 .rw[z,ha] at hb;cases hb;obtain⟨us,e1|⟨o',e1⟩⟩:=hu <;> cases e1
theorem zqc(ha:H a=some 5.2){d:GF}(h:Is K F H v d):Is K F (upd H a u) v d :=
 h.to (λb ys f q=>by
  have ne:b≠a:=λw=>by rw[w,ha] at q;cases q
  exact⟨f,by rw[zac ne];exact q⟩) λb ys q=>SqT.stay (h:=q) (zx6 ha)
theorem ztg(S:Seen K O H σ ρ)(hm:¬O.M a)(ha:H a=some 5.2):
 Seen K O (upd H a u) σ (shut ρ):=by
 refine⟨S.ok,S.ok.loc H _ (λb m=>zac λz=>hm (z ▸ m)) S.p,λi r e=>?_,by unfold shut;rw[Qf];exact S.len⟩;unfold shut at e;rw[Ql] at e
 cases hr:ρ[i]? with
 | none=>rw[hr] at e;cases e
 | some x=>
   rw[hr] at e
   cases x with
   | none=>cases e
   | some x=>
     obtain⟨v,h1,h2⟩:=S.at_ i x hr
     cases x with
     | im d=>cases e;exact⟨v,h1,zqc ha h2⟩
     | own ds=>cases e;exact⟨v,h1,zqc ha h2⟩
     | ob=>cases e;exact⟨v,h1,h2⟩
     | scr k=>
       cases e;refine⟨v,h1,?_⟩;obtain⟨b,xs,e,l,⟨f,q|⟨o',q⟩⟩|q⟩:=h2
       .have ne:b≠a:=λw=>by rw[w,ha] at q;cases q
        exact⟨b,xs,e,l,.inl ⟨f,.inl (by rw[zac ne];exact q)⟩⟩
       .have ne:b≠a:=λw=>by rw[w,ha] at q;cases q
        exact⟨b,xs,e,l,.inl ⟨f,.inr ⟨o',by rw[zac ne];exact q⟩⟩⟩
       .exact⟨b,xs,e,l,.inr q⟩
     | dct ks=>cases e
     | gen f ds=>cases e
     | rd f ds=>cases e
     | exc C ns ds=>cases e
     | thg T=>cases e
     | thr T=>cases e
theorem z1d{H:Hp}{a:Addr}{o:Obj}{kvs:0e5}{ks:2.4}(hm:¬O.M a)(ha:H a=some 7e2)(hk:kvs.map (·.1)=ks.map Zc):Walk K O H H (Itd a o kvs) (ks.map .str) (λb=>b=a):=by
 have ln:kvs.length=ks.length:=by have:=NA YQ hk;simpa using this
 refine⟨.refl _ _,λb hb=>by subst hb;exact⟨hm,_,ha⟩,λH2 i kb _ hi=>?_,λH2 i d kb t2 hd c=>?_⟩
 .exact⟨by rw[Qf] at hi;lia,kb a _ rfl ha⟩
 .have hi:i<kvs.length:=by
   obtain⟨z,_⟩:=Qc.mp hd;rw[Qf] at z;lia
  refine⟨⟨hi,kb a _ rfl ha⟩,λx H3 zz=>?_⟩;obtain⟨e3,p,hp,hx⟩:=zz;subst e3 hx;rw[Ql] at hd;obtain⟨y,hy,rfl⟩:=Qv.mp hd;have h1:27.2[i]? = some p.1:=by rw[Ql,hp];rfl
  rw[hk,Ql,hy] at h1;have h2:p.1=Zc y:=(Zy h1).symm;rw[h2];exact⟨Same.refl _,.str y⟩
def zzg(h n:Nat)(g:DG)(ft:DT)(fe:DE):DE:=λρ Q=>∃ks:List Str,ρ[n]? = some (some (.dct ks))/\zbj h g ft fe (shut ρ) (λes=>Q (.n es)) (ks.map .str) []
theorem zy2{h n:Nat}(hg:∀O':Ob,GS K O' tg g)
 (hf:∀(D:Addr) (xs:5.4),¬O.M D->TD K 26.5 tf ft) (he:∀(D:Addr) (xs:5.4),¬O.M D->ED K 26.5 te fe):ED K O (tFrz P w n (zeq h (iDct P w (tVar n)) tg tf te)) (zzg h n g ft fe):=by
 intro σ H ρ Q Qd S hq k;obtain⟨ks,e,go⟩:=hq;obtain⟨v,hv,a,hm,rfl,kvs,ha,hk⟩:=S.at_ n _ e;refine⟨a,kvs,hv,ha,λo D=>?_⟩;refine⟨_,hv,a,o,kvs,rfl,zah,D,?_⟩;have S1:Seen K O (upd H a 7e2) σ (shut ρ):=ztg S hm ha;have W:Walk K O (upd H a 7e2) (upd H a 7e2) (Itd a o kvs) (ks.map .str) (λb=>b=a):=z1d hm zah hk
 have hs:SrcS K O (λσ' H' R=>σ'=σ/\H'=upd H a 7e2->R (Itd a o kvs) (upd H a 7e2)) (λ_ Q=>Q false (ks.map .str)):=λσ' H' ρ' R Qd' _ q kk=>by
  rintro⟨rfl,rfl⟩;exact kk _ _ _ _ false W (λz=>by cases z) q
 refine zmd (h:=h) hs hg hf he σ (upd H a 7e2) (shut ρ) (λv H'=>H' a=some 7e2/\Q v (upd H' a 5.2)) Qd S1 go (λv' H' r st ou q=>?_) ⟨rfl,rfl⟩;have ha':H' a=some 7e2:=st.s a _ zah hm;refine⟨ha',k v' _ r ⟨λb u hb nb=>?_,λp=>?_,λb u hu hb=>?_⟩ ?_ q⟩
 .by_cases z:b=a
  .subst z;rw[ha] at hb;cases hb;exact zah
  .rw[zac z];exact st.s b u (by rw[zac z];exact hb) nb
 .exact S.ok.loc H' _ (λb m=>zac λz=>hm (z ▸ m)) (st.p S1.p)
 .have z:b≠a:=λz=>by
   rw[z,ha] at hb;cases hb;obtain⟨us,e1|⟨o',e1⟩⟩:=hu <;> cases e1
  rw[zac z];exact st.t b u hu (by rw[zac z];exact hb)
 .have ts:TupStay H' (upd H' a 5.2):=λb u hu hb=>by
   rw[zac λz=>?_]
   .exact hb
   .rw[z,ha'] at hb;cases hb;obtain⟨us,e1|⟨o',e1⟩⟩:=hu <;> cases e1
  have mv:∀b ys,H' b=some 6.7->upd H' a 5.2 b=some 6.7:=λb ys q=>by
   rw[zac λz=>?_]
   .exact q
   .rw[z,ha'] at q;cases q
  cases r with
  | o d=>exact Is.to (λb ys f q=>⟨f,mv b ys q⟩) (λb ys q=>SqT.stay (h:=q) ts) ou
  | n ds=>
    obtain⟨b,xs,rfl,hn,hl,hs⟩:=ou;have z:b≠a:=λz=>by rw[z,ha'] at hl;cases hl
    rw[zac z] at hn;exact⟨b,xs,rfl,hn,mv b xs hl,hs.to (λb ys f q=>⟨f,mv b ys q⟩) λb ys q=>SqT.stay (h:=q) ts⟩
end
section
variable {ι κ:Type}{P:GJ}{w:GL}{K:Qa}{mg:0.1}{base:Heap}{k:Nat}{X:0e1}{O:1e5}{pos:Pos}{tg:Expr}
theorem z5g(n m:Nat){scope:Tu}(h:Nat)(N':2.4)(C:0.8)(S:∀i,ScopeOk h N' (X i).N scope (X i).env.scope)
 (hg:G3 K 6e7 h tg g) (hf:F3 K 6e7 (zg0 O) ifs ft) (he:E3 K 6e7 (zg0 O) elt fe) (hNd:0e7:=by intro i;exact N7 1.9) (hi:3.1:=by intro i;rfl) (hx:∀i,(X i).env.scope.names.lookup x=some .local:=by intro i;rfl)
 (hsw:∀i,GV (.ListComp elt [⟨tg,.Name y py,ifs,0⟩] scope p0) 5e3 pos.line (X i).env=pure true:=by intro i;rfl) (hN:13.0:=by intro i;rfl) (hv:7e9:=by intro i;first|exact Or.inl rfl|exact Or.inr 8.4|exact Or.inr 8.3) (hd:0e0:=by decide) (hcd:2e0:=by decide) (hset:∀i x,Th 9.8 (X i).env x=pure x:=by intro _ _;rfl) :
 S3 K X O (.Assign [.Name x px] (.ListComp elt [⟨tg,.Name y py,ifs,0⟩] scope p0) pos) (asgS n (zzg h m g ft fe)):=by
 obtain⟨tg',p2,d2,_,ow⟩:=hg;obtain⟨tf,p3,d3⟩:=hf;obtain⟨te,p4,d4⟩:=he;refine⟨tAsg (tFrz P w m (zeq h (iDct P w (tVar m)) tg' tf te)) (zau n),λi=>?_,λj=>zhu (zy2 d2 (λD xs nm=>d3 ⟨(j,(D,xs)),nm⟩) λD xs nm=>d4 ⟨(j,(D,xs)),nm⟩)⟩;have hp:=yb7 (tg:=tg) (zaj (X:=X i) (pos:=py) (hN i) (hv i) hd hcd);have:=yag m (zhd (hNd i) (hi i) (hx i) (hsw i) h (S i) 18.7 hp (λc s H ex=>p2 (i,⟨c,s,H,ex⟩)) ow (λc s H ex=>p3 (i,⟨c,s,H,ex⟩)) (λc s H ex=>p4 (i,⟨c,s,H,ex⟩)) (hset i));rw[C.hP,C.hw] at this;exact this
end
end L3
namespace L6
open PySem PySem.Spec
open PyProof.Rows hiding St
open L2 L3
section
variable {X:Cx}{pins:1.1}{σ:St}{H:Hp}{s:GH}
def zlv(K:Qa)(sp:Sp)(ta:TE):TE:=λσ H Q=>ta σ H λv H1=>∃p kvs,v = .ref p/\H1 p=some 5.2/\kvs.length<64 /\
 zop sp (λks H2=>∃(α:Type) (blt:1e8) (k:Nat->α),KeysV K H2 ks α blt k/\∀ix l,Ord blt k kvs.length ix->H2 l=none->Q 17.9 (upd H2 l (.lst (zdf .non 7e1 ix)))) 7e1 [] H1
theorem znm:∀{kvs:0e5} {vs:16.0} {us:2.8},KV kvs vs->us.length=vs.length->(∀(i:Nat) u,us[i]? = some u->∃p,vs[i]? = some p/\zfm p.1 u=true)->Vals 7e1 us
 | [],[],[],_,_,_=>.nil
 | [],[],_::_,_,hl,_=>by simp at hl
 | _::_,_::_,[],_,hl,_=>by simp at hl
 | p::kvs,q::vs,u::us,.cons r t,hl,h=>by
   refine .cons ?_ (znm (vs:=vs) t (by simpa using hl) λi u e=>?_)
   .obtain⟨p',e,hk⟩:=h 0 u rfl;have e':q=p':=by simpa using e
    subst e';show RelV (kV p.1) u;rw[r.1];exact zpo hk
   .obtain⟨p',e,hk⟩:=h (i+1) u 9.0;exact⟨p',by simpa using e,hk⟩
theorem zy0{k:Nat}(F:FnOk X.prog X.w X.K X.mg X.base CX0 k f fd [y] sp)(hr:Room (k+1) X.A)(hb:Binds X.K fd [y] [])(hcalm:6e4)(hg:Gl X "sorted")(hm:X.mg "sorted" = none)
 (hgx:Gl X x) (hmx:X.mg x=some 9.1) (ha:26.0) (hdx:1.5:=by decide) (hs:GI [a] X.env = [(false,eval a X.env)]:=by rfl) :
 PE X (.Call (.Name "sorted" p) [a] [⟨some "key",.Name x px,kp⟩] pos) (zlv X.K sp ta):=by
 intro pins s σ H Q I h;refine GW (zbt I hg hm zff ?_);refine callWith_kw ?_ (by rw[hs];rfl) (by rw[hs];rfl) rfl rfl;rw[hs];refine QV (thn 8.1 λu s1 zz=>?_);obtain⟨v,H1,I1,r1,q,kvs,ev,hq,h64,go⟩:=zz;subst ev;obtain rfl:u=QP q:=r1;refine Zu ?_;refine kws_cons (zdo I1 hgx hmx (kws_nil ?_) hdx);show wpAny 0.5 X.A (call 20.0 [.ref q] [(Qj "key",.ref f)]) _ _ s1;obtain⟨hz,hsm,kv,rkv,D⟩:=I1.hok q _ hq;obtain⟨ep,D⟩:=D.dictAt;have lkv:kvs.length=kv.length:=JO rkv;refine MH Nq Nl Nj (Uw _ _) ?_;unfold Builtin.«sorted»;refine GD (m:=checkCount "sorted" 1 1 _) 0e6;refine GD (DU.collect_dict (knd:=mixKind X.prog X.w) (by have:=I1.ok.hd hcalm;simpa using this) hsm D 0.0 λh0 tk vs ext hlen hvs hsz=>?_);have rv:Vals 7e1 vs:=znm rkv 0.0 hvs;have hlv:(kvs.map λp=>kV p.1).length=vs.length:=rv.length;have hv64:vs.length<64:=by lia
 have hz:(kvs.map λp=>kV p.1).length<=sizeLine:=by rw[Qf];exact hz
 have hkl:(kvs.map λp=>kV p.1).length=kvs.length:=by simp
 rw[<- hkl] at go;generalize 7e1=xs at rv hlv hz hkl go;have sz0:s1.heap.objs.size+1<=h0.objs.size:=hsz;have k0:∀b u,s1.heap.get? b=some u->h0.get? b=some u:=ext;refine GD (Mn ?_);have hoL:(h0.push 5.3).get? h0.objs.size=some 5.3:=Qp _ rfl;show wpAny 0.5 X.A.in1 _ _ _ { s1 with heap:=h0.push 5.3,toks:=tk };refine GD (GU (wpAny_call_entry_kw MW ⟨_,hoL,rfl⟩ MP ?_ (Ux _ _)));rw[PyProof.Rows.ksk_t1];unfold Ub;refine GD (Mw hoL rfl ?_);refine GD (TV hoL rfl ?_ 27.6);obtain⟨ea,ho1⟩:∃ea,((h0.push 5.3).update h0.objs.size 8e1).get? h0.objs.size=some 4e4:=⟨_,TB hoL (λ_=>#[])⟩;refine GD (Nr ho1 rfl ?_);refine GD (MY ?_);refine GD (Mn ?_);refine GU ?_;generalize eh2:(h0.push 5.3).update h0.objs.size 8e1=h2 at ho1;have sz2:h2.objs.size=h0.objs.size+1:=by rw[<- eh2,VG,M0]
 have k2:∀b u,s1.heap.get? b=some u->h2.get? b=some u:=λb u e=>by
  have:=k0 b u e;rw[<- eh2,QS _ _ _ _ (Qz (Qs this))];exact Qb _ this
 -- the list that is sorted,the keys' list
 generalize eq2:h0.objs.size=q2 at ho1 hoL sz2 sz0;generalize eh3:h2.push (seqObj "tuple" vs.toArray 0)=h3;have sz3:h3.objs.size=q2+2:=by rw[<- eh3,M0,sz2]
 have k3:∀b u,h2.get? b=some u->(h3.push 7.9).get? b=some u:=λb u e=>by
  refine Qb _ ?_;rw[<- eh3];exact Qb _ e
 show wpAny 0.5 X.A.in1.in1 (Uc q2 9.1 false vs.toArray ea (.ref h3.objs.size)) _ _ { s1 with heap:=h3.push 7.9,toks:=tk };have fq:FpOk X pins H1 q2:=I1.fpOk 0.0 (I1.hok.fresh 0.0);have fk:FpOk X pins H1 h3.objs.size:=I1.fpOk 0.0 (I1.hok.fresh 0.0);have hne:h3.objs.size≠q2:=by lia
 have I2:Inv X pins σ H1 { s1 with heap:=h3.push 7.9,toks:=tk }:=I1.kept (t':=tk) λb u e=>k3 b u (k2 b u e);have oq:=k3 _ _ ho1;have ok:(h3.push 7.9).get? h3.objs.size=some 7.9:=Qp _ rfl;generalize h3.push 7.9=h4 at I2 oq ok ⊢;generalize h3.objs.size=kS at fk hne ok ⊢
 refine zps (λi ks s'=>∃(H':Hp) (kvs:5.4) (e:Nat),Inv X pins σ H' s'/\H' q2=none/\H' kS=none/\s'.heap.get? q2=some 4e4/\s'.heap.get? kS=some 16.3/\Vals kvs ks /\
  zop sp (λks H2=>∃(α:Type) (blt:1e8) (k:Nat->α),KeysV X.K H2 ks α blt k/\∀ix l,Ord blt k xs.length ix->H2 l=none->Q 17.9 (upd H2 l (.lst (zdf .non xs ix)))) (xs.drop i) kvs H') hv64
  ⟨H1,[],0,I2,fq.1,fk.1,oq,ok,.nil,go⟩ (λi x ks s' hx hk ⟨H',kvs,e,I',n1,n2,o1,o2,rk,g⟩=>?_) λks s' hl ⟨H',kvs,e,I',n1,n2,o1,o2,rk,g⟩=>?_
 .have hi:i<vs.length:=(Qc.mp hx).1;have hi':i<xs.length:=by lia
  obtain⟨u,hu,ru⟩:=Vals.get rv (Qg hi');rw[hx] at hu;cases hu;rw[Q4 hi'] at g
  have I3:Inv X (pins ++ [(q2,seqObj "list" #[] ea),(kS,seqObj "list" ks.toArray e)]) σ H' s':=I'.pins_of λp hp=>by
   rcases Qx.mp hp with hp|hp
   .exact I'.pin p (Q8 _ hp)
   .rcases Q2.mp hp with rfl|hp
    .exact⟨o1,n1,fq.2.1,fq.2.2.1,λv z=>by cases z⟩
    .rw[Qo.mp hp];exact⟨o2,n2,fk.2.1,fk.2.2.1,λv z=>by cases z⟩
  refine GQ (z8s F hr hb I3 (.cons ru .nil) g) (λkv s2 zz=>?_) λ_ _ z=>z;obtain⟨v,H'',I4,r4,g4⟩:=zz;have p1:=I4.pin (q2,seqObj "list" #[] ea) 0.3;have p2:=I4.pin (kS,seqObj "list" ks.toArray e) 0.3;have I5:Inv X pins σ H'' s2:=I4.pins_of λp hp=>I4.pin p (by simp[hp])
  obtain⟨e',eu⟩:∃e',(s2.heap.update kS (QJ (·.push kv))).get? kS=some (seqObj "list" (ks ++ [kv]).toArray e'):=by
   have z:=TB p2.1 (λxs=>xs.push kv);have z2:ks.toArray.push kv=(ks ++ [kv]).toArray:=by simp
   exact⟨_,z.trans (NA (λa=>some (seqObj "list" a _)) z2)⟩
  refine⟨⟨e,p2.1⟩,H'',kvs ++ [v],e',I5.turned (it:=kS) (t':=s2.toks) 16.6 p2.2.1 fk.2.1 fk.2.2.2.1 fk.2.2.2.2.1 fk.2.2.2.2.2,p1.2.1,p2.2.1,?_,eu,Vals.append rk (.cons r4 .nil),g4⟩;show(s2.heap.update kS _).get? q2=_;rw[QS _ _ _ _ (ZD hne)];exact p1.1
 .rw[<- hlv,JE (Qi _)] at g;obtain⟨α,blt,k,kv,q⟩:=g;refine⟨α,blt,k,e,o2,o1,hne,zpf I' kv rk hl,λix o=>⟨_,rfl,GG 14.5⟩⟩;have IA:=I'.turned (it:=kS) (t':=s'.toks) (h':=s'.heap.update kS 8e1) 16.6 n2 fk.2.1 fk.2.2.2.1 fk.2.2.2.2.1 fk.2.2.2.2.2
  have oA:(s'.heap.update kS 8e1).get? q2=some 4e4:=by
   rw[QS _ _ _ _ (ZD hne)];exact o1
  refine⟨.ref q2,upd H' q2 (.lst (zdf .non xs ix)),IA.adopt (t':=s'.toks) ⟨n1,fq.2⟩ (λb u hb z=>by rw[QS _ _ _ _ hb];exact z) ?_,rfl,q ix q2 (by rw[hlv];exact o) n1⟩;refine⟨by unfold zdf;rw[Qf,Z7];exact hz,zc2 vs ix,_,Vals.pick rv o.bj,TB oA _⟩
end
end L6
namespace L3
open PySem PySem.Spec
open PyProof.Rows hiding St
open L2 L6
section
variable {K:Qa}{O:Ob}
theorem zvl{n:Nat}(hn:n=ds.length)(od:Ord plt (λi=>(((ds.map kf).getD i (0,QO)).1,((ds.map kf).getD i (0,QO)).2.cps.toList)) n ix):
 ((QH n).map λi=>ds.getD (ix i) .none)=zf7 kf ds:=by
 have hb:∀i,i<n->ix i<ds.length:=λi hi=>by rw[<- hn];exact od.bj.lt i hi
 have up:Up plt (λi=>kfl kf (ds.getD i .none)) ix n:=by
  intro i j hij hj;have:=od.up i j hij hj;have h1:=hb i 0.0;have h2:=hb j hj
  have key:∀m,m<ds.length->kfl kf (ds.getD m .none)=(((ds.map kf).getD m (0,QO)).1,((ds.map kf).getD m (0,QO)).2.cps.toList):=λm hm=>by
   simp[kfl,Q5,hm]
  unfold Rk at this ⊢;dsimp only at this ⊢;rw[key _ h1,key _ h2];exact this
 have:=zki (key:=kfl kf) (g:=λi=>ds.getD i .none) zyn up od.bj;rw[this];unfold zf7
 congr 1
 rw[hn];refine Z6 λi=>?_
 by_cases hi:i<ds.length
 .simp[hi]
 .rw[Q9 5.0,Q9 0.0]
def ztd(F:6.8)(n:Nat):DE:=λρ Q=>∃(ks:2.4) (kf:GF->Int×Str),ρ[n]? = some (some (.dct ks))/\ks.length<64/\(∀k∈ks,F [.str k] λr=>r.d = .tuple [.int (kf (.str k)).1,.str (kf (.str k)).2])/\Q (.n (zf7 kf (ks.map .str)))
theorem zsi: ∀{kvs:0e5} {ks:2.4},kvs.map (·.1)=ks.map Zc->IsAll K F H 7e1 (ks.map .str)
 | [],[],_=>.nil
 | [],_::_,h=>by simp at h
 | _::_,[],h=>by simp at h
 | p::kvs,k::ks,h=>by
   rw[Qy,Qy,Gh] at h;refine .cons ?_ (zsi h.2);show Is K F H (kV p.1) (.str k);rw[h.1];exact .str k
theorem zx5{n:Nat}(hφ:φ O):ED K O (zlv K (spO K φ 1 F) (tVar n)) (ztd F n):=λσ H ρ Q Qd S hf k=>by
 obtain⟨ks,kf,e,hl,hF,q⟩:=hf;obtain⟨v,hv,a,hm,rfl,kvs,ha,hk⟩:=S.at_ n _ e;have ln:kvs.length=ks.length:=by have:=NA YQ hk;simpa using this
 refine⟨_,hv,a,kvs,rfl,ha,by lia,?_⟩;have b1:IsAll K 5.5 H 7e1 (ks.map .str):=zsi hk;generalize hxs:7e1=xs at b1;have hx:xs.length=kvs.length:=by rw[<- hxs];simp
 generalize hds:(ks.map Zx)=ds at b1 q;have hlx:=b1.length;refine zy3 (kf:=kf) S.ok hφ ds xs [] [] H S.p b1 ⟨rfl,λi v p e1 _=>by simp at e1⟩ (λd hd=>?_) λks' H2 st2 hk2=>?_
 .rw[<- hds] at hd;obtain⟨x,hx,rfl⟩:=QA.mp hd;exact hF x hx
 refine⟨_,_,_,.pair (ds.map kf) ks' hk2.1 hk2.2,λix l od hn=>?_⟩;rw[<- hx] at od;have isAll2:IsAll K 5.5 H2 xs ds:=b1.stp st2 3.8 3.8;have hb:∀i,i<xs.length->ix i<ds.length:=λi hi=>by rw[<- hlx];exact od.bj.lt i hi
 have pk:=zut isAll2 (n:=xs.length) hb;rw[zvl hlx od] at pk;obtain⟨c1,c2⟩:=zb1 (K:=K) S.ok hn pk;exact k _ _ _ (st2.trans c1) (c2.ahead S.ok S.p st2) q
end
theorem z1p{ι κ:Type}{P:GJ}{w:GL}{K:Qa}{mg:0.1}{base:Heap}{k:Nat}{X:0e1}{O:1e5}{pos p px kp py:Pos}{k':Nat}{x y z:Str}{φ:Ob->Prop}{F:6.8}(n:Nat)(C:0.8)(B:7.1)(D:Def3 P w K mg base k' x [y] (spO K φ 1 F))(hφ:∀j,φ (O j))(hk:k'+1<=k:=by decide)
 (hN:∀i,(X i).N[n]? = some z:=by intro i;rfl) (hv:∀i,Vis (X i).env.scope z:=by intro i;first|exact Or.inl rfl|exact Or.inr 8.4|exact Or.inr 8.3) (hd:(z == ("__debug__" : Str))=false:=by decide) (hcd:(z == ("__classdict__" : Str))=false:=by decide)
 (hg:∀i,Gl (X i) "sorted" := by intro i;rfl) (hgx:8e5:=by intro i;rfl) (hdx:1.5:=by decide) (hs:∀i,GI [.Name z py] (X i).env = [(false,eval (.Name z py) (X i).env)]:=by intro i;rfl) :
 E3 K X O (.Call (.Name "sorted" p) [.Name z py] [⟨some "key",.Name x px,kp⟩] pos) (ztd F n):=by
 obtain⟨f,fd,G,m,kp',bn⟩:=D.ex;refine⟨zlv K (spO K φ 1 F) (tVar n),λi=>?_,λj=>zx5 (hφ j)⟩;obtain⟨j,rfl⟩:∃j,k=j+1:=⟨k-1,by lia⟩;have G':=G.mono (show k'<=j by lia);have h:=zy0 (X:=X i) (k:=j) (f:=f) (fd:=fd) (y:=y) (x:=x) (sp:=spO K φ 1 F) (ta:=tVar n) (a:=.Name z py) (p:=p) (px:=px) (kp:=kp) (pos:=pos) (by rw[C.hP,C.hw,C.hK,C.hmg,C.hb];exact G') (C.room i) (by rw[C.hK];exact bn) 18.7 (hg i) (by rw[C.hmg];exact B.sorted) (hgx i) (by rw[C.hmg];exact m) (zaj (hN i) (hv i) hd hcd) hdx (hs i);rw[C.hK] at h;exact h
end L3
namespace RT
open PySem PySem.Spec PyProof.Rows
theorem zog:Slot "reversed" "__init__" "object.__init__" :=
 .of (owner := "object") (n := "__init__") (by rw[Tc,GO];kernel_rfl) 0.2 0.2 0.2
  17.6 (by rw[Te];kernel_rfl)
theorem ztp:TypeCalled "reversed" "reversed.__new__" "object.__init__" :=
 ⟨by decide +kernel,by decide +kernel,⟨_,_,F.mro_reversed⟩,F.made_reversed,by decide +kernel,by rw[Te];kernel_rfl,zog⟩
theorem zhl:Gj.lookup (G2 ['d','e','s','r','e','v','e','r'].reverse)=some Manifest.sig_reversed:=by kernel_rfl
theorem slot_rev_next:Slot "reversed" "__next__" "reversed.__next__" :=
 .of (owner := "reversed") (n := "__next__") (by rw[Tc,GO];kernel_rfl) 0.2 0.2 0.2
  17.6 (by rw[Te];kernel_rfl)
theorem zgh:M9 table "reversed.__next__" = some Builtin.«reversed.__next__»:=Mi 1.9
theorem zhe(a:GE):MG "reversed.__next__" ⟨[a],[]⟩:=by
 unfold MG;rw[Ml (id := "reversed.__next__") (n:=['_','_','t','x','e','n','_','_']) (o:=['d','e','s','r','e','v','e','r']) 1.9 zhl];kernel_rfl
theorem zhj:Slot "reversed" "__iter__" "reversed.__iter__" :=
 .of (owner := "reversed") (n := "__iter__") (by rw[Tc,GO];kernel_rfl) 0.2 0.2 0.2
  17.6 (by rw[Te];kernel_rfl)
theorem zof(a:GE):MG "reversed.__iter__" ⟨[a],[]⟩:=by
 unfold MG;rw[Ml (id := "reversed.__iter__") (n:=['_','_','r','e','t','i','_','_']) (o:=['d','e','s','r','e','v','e','r']) 1.9 zhl];kernel_rfl
theorem zm4:M9 table "reversed.__iter__" = some Builtin.«dict_keyiterator.__iter__» :=
 MT (id' := "dict_keyiterator.__iter__") 1.9 (by first|rfl|decide +kernel|(unfold String.splitOn;simp +decide [String.splitOnAux])) 0.2 1.9
theorem zw7:Mb (.type "str") "__reversed__" = pure none:=by rw[Tc,GO];kernel_rfl
theorem ztk:isSubtype (.type "str") 26.6=pure false:=by rw[Te];kernel_rfl
def revS(x:Str)(t:Tok)(i:Int):Obj:={ cls:=.type "reversed",data:=.fields #[.str x t,rawInt i] }
theorem zpb:Mb (.type "str") "__getitem__" = pure (some (.builtin "str.__getitem__")):=by rw[Tc,GO];kernel_rfl
theorem zwh(x:Str)(t:Tok)(hf:¬(x.length:Int) ≥ 2 ^ 63):
 Meets (Builtin.«reversed.__new__» ⟨[.type "reversed",.str x t],[]⟩) (λ_ R s=>∀tk,R (.ok (.ret 2.7)) { s with heap:=s.heap.push (revS x t 10.4),toks:=tk }) :=
 .of_wp λprog w A R s h=>by
  obtain⟨hp,g,d,tk,os⟩:=s;have h1:=zw7;have h2:=ztk;have h3:=Uy;have h4:=zpb
  wp_walk using len_str hf
  exact⟨_,rfl,h _⟩
section
variable {prog:GJ}{w:GL}{A:GN}{E:1.7}{s:GH}
theorem call_rev(hf:¬(x.length:Int) ≥ 2 ^ 63)(h:∀tk,Q 2.7 { s with heap:=s.heap.push (revS x t 10.4),toks:=tk }):
 wpAny 1.3 A (call (.type "reversed") [.str x t]) Q E s :=
 callType_new ztp 0.4 (F.typeCall_reversed_1 _) (F.newCall_reversed_1 _) (λobj=>F.args_object_init_2 obj _) F.entry_reversed_new (zwh x t hf) λtk=>⟨⟨_,Qp _ rfl,rfl⟩,h tk⟩
def IsRev(h:Heap)(it:Addr)(x:Str)(t:Tok)(i:Int):Prop:=∃o,h.get? it=some o/\o.cls = .type "reversed" /\ o.data = .fields #[.str x t,rawInt i]
theorem IsRev.typeIs{i:Int}(h:IsRev s.heap it x t i):s.TypeIs 6.2 "reversed" := let ⟨o,ho,hc,_⟩:=h;⟨o,ho,hc⟩
theorem zvx{i c:Nat}(hit:IsRev s.heap it x t (i:Int))(hx:x.cps[i]? = some c)(hi:(i:Int)<2 ^ 63)
 (hQ:∀h' tk u,IsRev h' it x t ((i:Int)-1)->ZV it s.heap h'->Q (some (.str ⟨#[c]⟩ u)) 3.5):wpAny 1.3 A (M6 6.2) Q E s:=by
 obtain⟨o,ho,hc,hd⟩:=id hit
 have hlt:i<x.length:=by
  obtain⟨z,_⟩:=JY.mp hx;exact z
 unfold M6
 refine GD (TK (To (name:=Qj "__next__") hit.typeIs slot_rev_next
  (Ta slot_rev_next hit.typeIs zgh ?_ (zhe _))))
 unfold Builtin.«reversed.__next__»;refine GD (TX (a:=(QP it,[])) rfl ?_)
 try dsimp only
 refine GD (Tq ho hd (x:=.str x t) rfl ?_);refine GD (Tq ho hd (x:=rawInt (i:Int)) rfl ?_);show wpAny _ _ (if(i:Int)<0 then _ else _) _ _ s;rw[N4 0.0];refine GD (Tt (MM s x t) zpb ?_);refine SX.wp_f 0.4 ?_;refine GD (wpAny_mkInt ?_)
 have hr:(decide ((i:Int) < -(2 ^ 63:Int)) || decide ((i:Int) ≥ 2 ^ 63))=false:=by
  rw[N5 0.0,N5 0.0];rfl
 have hcx:(My (i:Int) x.length).bind (x.cps[·]?)=some c:=by
  have:My (i:Int) x.length=some i:=by
   unfold My;have h0:¬((i:Int)<0):=by lia
   simp[h0,hlt]
  rw[this];exact hx
 refine GD (TK (P.getItem_str hr hcx ?_));refine GD (Tq ho hd (x:=rawInt (i:Int)) rfl ?_);refine GD (TY ho hd 0.3 ?_);refine GG ⟨_,rfl,GG (hQ _ _ _ ?_ (Vd ..))⟩
 exact⟨_,Z5 _ ho (Jm (Jk hd _)),(UM ..).trans hc,by
  rw[Jk hd];simp⟩
theorem z0o(hh:7.3)(hit:IsRev s.heap it x t (-1))
 (hQ:∀h',Heap.ExtBut it s.heap h'->Q none 3.9):wpAny 1.3 A (M6 6.2) Q E s:=by
 obtain⟨o,ho,hc,hd⟩:=id hit;unfold M6
 refine GD (TK (To (name:=Qj "__next__") hit.typeIs slot_rev_next
  (Ta slot_rev_next hit.typeIs zgh ?_ (zhe _))))
 unfold Builtin.«reversed.__next__»;refine GD (TX (a:=(QP it,[])) rfl ?_)
 try dsimp only
 refine GD (Tq ho hd (x:=.str x t) rfl ?_);refine GD (Tq ho hd (x:=rawInt (-1)) rfl ?_);show wpAny _ _ (if(-1:Int)<0 then _ else _) _ _ s;rw[N3 0.4];refine GD (Tz ?_);refine GD ?_;refine GD (TY ho hd 0.3 ?_);have e1:=Z5 (Jx (·.setIfInBounds 1 (rawInt (-1)))) ho (Jm (Jk hd _));refine TY e1 (Jk hd _) 0.3 ?_
 first
 | show wpAny _ _ (newExc (.type "StopIteration") [] >>= _) _ _ _
 | (refine GD ?_;show wpAny _ _ (newExc (.type "StopIteration") [] >>= _) _ _ _)
 refine GD ?_;simp only[newExc,newTuple];refine GD (GP ?_ (by size_fits));refine GD (m:=Mz _ _) (TX (a:=ZB) (by first|rfl|(simp only[Mz];rfl)) ?_);refine GP ?_ (by size_fits);simp only[raiseNew];refine GD (wpAny_handled ?_)
 first|rw[show A.in1.handled=none from hh]|rw[hh]
 refine GD (GG (wpAny_throw ?_));refine GD (TQ (T := "StopIteration") (b:=true) ⟨_,Qp _ rfl,rfl⟩ isSubtype_stop ?_);exact GG (hQ _ (((((Vd ..).extBut.trans (Vd ..).extBut)).push _).push _))
theorem zj2{i:Int}(hit:IsRev s.heap it x t i)(h:Q 6.2 s):wpAny 1.3 A (MJ 6.2) Q E s:=by
 refine M5 hit.typeIs zhj (Ta zhj hit.typeIs zm4 ?_ (zof _));show wpAny _ _ (ret 6.2) _ _ s;exact GG ⟨_,rfl, "reversed",_,hit.typeIs,slot_rev_next.lookup,h⟩
end
theorem IsRev.at{i:Int}(y:IsRev h it x t i)(e:∀o,h.get? it=some o->h'.get? it=some o):IsRev h' it x t i:=let ⟨o,ho,r⟩:=y;⟨o,e _ ho,r⟩
theorem ydv{prog:GJ}{w:GL}{A:GN}(hh:7.3)(I:Addr)(x:Str)(t:Tok)(hx:(x.length:Int)<2 ^ 62):
 Walks prog w A I [I] [I] x.cps.size (λi v=>∃c u,x.cps[x.cps.size-1-i]? = some c/\v = .str ⟨#[c]⟩ u) (λi h=>i<=x.cps.size/\IsRev h I x t ((x.cps.size:Int)-1-(i:Int))) where
 sub:=λb hb=>hb
 frame:=λ_ _ _ y hk=>⟨y.1,y.2.at λo e=>hk I 0.3 o e⟩
 item:=λi s Q E hi y hQ=>by
  have e:(x.cps.size:Int)-1-(i:Int)=((x.cps.size-1-i:Nat):Int):=by lia
  have hit:=y.2;rw[e] at hit;have hc:x.cps[x.cps.size-1-i]? = some (x.cps[x.cps.size-1-i]' 0.0):=QL 0.0;have hx':(x.cps.size:Int)<2 ^ 62:=hx;refine zvx hit hc 0.0 λh' tk u hit' hs'=>?_;have e2:((x.cps.size-1-i:Nat):Int)-1=(x.cps.size:Int)-1-((i+1:Nat):Int):=by lia
  rw[e2] at hit';exact hQ _ h' tk ⟨_,u,hc,rfl⟩ ⟨hi,hit'⟩ λb o hb eo=>hs'.extBut b o (λh=>hb (by simp[h])) eo
 done:=λs Q E y hQ=>by
  have e:(x.cps.size:Int)-1-(x.cps.size:Int) = -1:=by lia
  have hit:=y.2;rw[e] at hit;exact z0o hh hit λh' he'=>hQ h' s.toks λb o hb eo=>he' b o (λh=>hb (by simp[h])) eo
 self:=λ_ _ _ _ y hQ=>zj2 y.2 hQ
end RT
namespace RT
open PySem PySem.Spec PyProof.Rows SX
theorem zxd:Mb (.type "reversed") "__len__" = pure none:=by rw[Tc,GO];kernel_rfl
theorem slot_rev_hint:Slot "reversed" "__length_hint__" "reversed.__length_hint__" :=
 .of (owner := "reversed") (n := "__length_hint__") (by rw[Tc,GO];kernel_rfl) 0.2 0.2 0.2
  17.6 (by rw[Te];kernel_rfl)
theorem zmz:M9 table "reversed.__length_hint__" = some Builtin.«reversed.__length_hint__»:=Mi 1.9
theorem zoh(a:GE):MG "reversed.__length_hint__" ⟨[a],[]⟩:=by
 unfold MG;rw[Ml (id := "reversed.__length_hint__") (n:=['_','_','t','n','i','h','_','h','t','g','n','e','l','_','_']) (o:=['d','e','s','r','e','v','e','r']) 1.9 zhl];kernel_rfl
theorem zm5:splitId "reversed.__length_hint__" = some ("reversed", "__length_hint__"):=by decide +kernel
section
variable {prog:GJ}{w:GL}{A:GN}{E:1.7}{s:GH}
theorem zvf(hf:¬(x.length:Int) ≥ 2 ^ 63)(hit:IsRev s.heap it x t 10.4)(h:∀tk u,Q (.int x.length u) { s with toks:=tk }):wpAny 1.3 A (call (.builtin "reversed.__length_hint__") [.ref it]) Q E s:=by
 obtain⟨o,ho,hc,hd⟩:=id hit;refine Ta slot_rev_hint hit.typeIs zmz ?_ (zoh _);unfold Builtin.«reversed.__length_hint__»;refine GD (TX (a:=QP it) rfl ?_);refine GD (Tq ho hd (x:=.str x t) rfl ?_);refine SX.wp_f (by intro z;cases z) ?_;refine GD (P.len_str hf ?_);refine GD (m:=asInt? (.int x.length _)) 0e6;dsimp only;refine GD (Tq ho hd (x:=rawInt 10.4) rfl ?_);show wpAny _ _ (if(x.length:Int)<(x.length:Int)-1+1 then _ else _) _ _ _;rw[N4 0.0,show(x.length:Int)-1+1=x.length by lia];refine GD (wpAny_mkInt ?_);exact GG ⟨_,rfl,h _ _⟩
theorem zg8(hf:x.length<=sizeLine)(hit:IsRev s.heap it x t 10.4)(h:∀tk,Q ((x.length:Int) != 0) { s with toks:=tk }):wpAny 1.3 A (Z8 6.2) Q E s:=by
 have sz:=GK;have sp:=zm5;unfold Z8;refine GD (Tt hit.typeIs zxd (GD (Tt hit.typeIs slot_rev_hint.lookup ?_)));revert sp;generalize z:("reversed.__length_hint__" : String)=nm;intro sp;dsimp only;rw[sp];subst z;refine GD (TQ (b:=true) hit.typeIs Uy ?_);refine SX.wp_f 0.4 ?_;refine SX.wp_f 0.2 ?_;refine GD (Tz ?_);refine GD (TX (slot_rev_hint.bind _) ?_);dsimp only;refine GD (TK (zvf 0.0 hit λtk u=>?_))
 have f1:¬(!Builtin.List.listFitsIndex (x.length:Int))=true:=by
  have:Ya (x.length:Int)=true:=by
   unfold Ya;simp;lia
  rw[this];decide
 have f2:¬Z1 ((x.length:Int)).toNat=true:=by
  unfold Z1;rw[Int.toNat_natCast];simp;lia
 have f3:¬((x.length:Int)<0):=by lia
 generalize (x.length:Int)=n at f1 f2 f3 h ⊢;show wpAny _ _ (asInt? (.int n u) >>= _) _ _ _;refine GD 0e6;dsimp only;refine SX.wp_f f1 (SX.wp_f f3 (SX.wp_f f2 (GG (h tk))))
theorem zry(hh:7.3)(hf:x.length<=sizeLine)(hit:IsRev s.heap it x t 10.4)
 (k:∀(h':Heap) (tk:Nat) (vs:2.8),7e7->vs.length=x.cps.size->(∀(i:Nat) v,vs[i]? = some v->∃c u,x.cps[x.cps.size-1-i]? = some c/\v = .str ⟨#[c]⟩ u)->Q vs 3.5):wpAny 1.3 A (Na 6.2) Q E s:=by
 have sz:=GK;obtain⟨o,ho,hc,hd⟩:=id hit;have hlt:it<s.heap.objs.size:=Qs ho;unfold Na;refine GD (M1 (Tb YJ ?_));rw[Zb YK _];refine GD (m:=Nw []) (GP ?_);refine GG ⟨Tk Jt _,Tb V2 ?_⟩;rw[Zb Jt _];have r1:IsRev (s.heap.push 3.4) it x t 10.4:=hit.at λo e=>Qb _ e;have eL:(s.heap.push 3.4).get? s.heap.objs.size=some 3.4:=Qp _ rfl;show wpAny _ A.in1 (Zm 2.7 6.2 2.7) _ _ 8.7;unfold Zm;refine GD (Tn (IsRev.typeIs (s:=8.7) r1) ?_)
 have nsr:ZX 2.7 6.2=false:=by
  show(s.heap.objs.size == it)=false;exact beq_eq_false_iff_ne.mpr (ZM hlt)
 rw[nsr];refine wp_f 0.4 ?_;refine GD (zj2 (s:=8.7) r1 ?_);refine GD (GU (zg8 (s:=8.7) hf r1 λtk=>?_));have W:=(ydv (prog:=prog) (w:=w) (A:=A.in1) 6e1 it x t 0.0).toS;have nLf:s.heap.objs.size ∉ [it]:=λz=>ZM hlt (Qo.mp z)
 have sh4:∀(h4:Heap),(∀b u,b≠s.heap.objs.size->(s.heap.push 3.4).get? b=some u->h4.get? b=some u)->0<=x.cps.size/\IsRev h4 it x t ((x.cps.size:Int)-1-((0:Nat):Int)):=λh4 kk=>⟨Qw _,by
  have:(x.cps.size:Int)-1-((0:Nat):Int)=(x.length:Int)-1:=by show(x.cps.size:Int)-1-0=(x.cps.size:Int)-1;lia
  rw[this]
  exact r1.at λo e=>kk it o (Qz hlt) e⟩
 have last:∀(h4:Heap) (s':GH) (acc:10.3) (c:Nat),(∀b u,b≠s.heap.objs.size->(s.heap.push 3.4).get? b=some u->h4.get? b=some u)->Moved [s.heap.objs.size,it] (λa b=>b=a) { s with heap:=h4,toks:=tk } s'->s'.heap.get? s.heap.objs.size=some (lO acc c)->ItemsOf (λi v=>∃c u,x.cps[x.cps.size-1-i]? = some c/\v = .str ⟨#[c]⟩ u) acc x.cps.size->Q acc.toList s':=λh4 s' acc c kk mv eA hacc=>by
  obtain⟨h5,g5,d5,tk5,os5⟩:=s';obtain rfl:g5=s.gens:=mv.gens;obtain rfl:d5=s.drawn:=mv.drawn;obtain rfl:os5=s.os:=mv.os;refine k h5 tk5 acc.toList (λb o hb e=>mv.heap b o (λz=>?_) (kk b o (Qz (Qs e)) (Qb _ e))) (by have:=hacc.1;simpa using this) λi v e=>hacc.2 i v 9.0;have hbl:=Qs e;rcases Q2.mp z with z|z
  .exact Qz hbl z
  .exact hb (Qo.mp z)
 by_cases hz:x.length=0
 .rw[hz];refine wp_f 0.2 ?_;refine GG ⟨Tk J1 _,TF W hf _ nLf _ x.cps.size 0 { s with heap:=s.heap.push 3.4,toks:=tk } #[] 0 rfl (Qw _) (sh4 _ λb u _ e=>e) eL (Vy _) λs' acc c mv eA hacc=>?_⟩;exact GD (MN eA (GG (last _ s' acc c (λb u _ e=>e) mv eA hacc)))
 .have hne:((x.length:Int) != 0)=true:=by
   rw[bne_iff_ne];lia
  rw[hne];refine wp_t 0.2 ?_;refine GD (Tz ?_);refine GD ?_;unfold YB;have h64:(0:Nat)<=sizeLine:=Qw _;refine GD (zgb (s:={ s with heap:=s.heap.push 3.4,toks:=tk }) (·.push ZB) eL h64 0.3 λh3 c3 e3 b3=>?_);refine zgb (s:={ s with heap:=h3,toks:=tk }) (·.pop) e3 (by rw[GK];decide) 0.3 λh4 c4 e4 b4=>?_;have keep:∀b o,b≠s.heap.objs.size->(s.heap.push 3.4).get? b=some o->h4.get? b=some o:=λb o nb e=>(b4.2 b nb).trans ((b3.2 b nb).trans e);refine GG ⟨Tk J1 _,TF W hf _ nLf _ x.cps.size 0 { s with heap:=h4,toks:=tk } #[] c4 rfl (Qw _) (sh4 _ keep) e4 (Vy _) λs' acc c mv eA hacc=>?_⟩;exact GD (MN eA (GG (last _ s' acc c keep mv eA hacc)))
end
end RT
namespace RT
open PySem PySem.Spec PyProof.Rows SX
open Builtin Builtin.Str Builtin.Int
section
variable {prog:GJ}{w:GL}{A:GN}{E:1.7}{s:GH}
theorem join_rev(hh:7.3)(hf:x.length<=sizeLine)(hit:IsRev s.heap it x t 10.4)(hz:x.length+x.length * sep.length<=16777216)
 (k:∀(h':Heap) (tk:Nat) (u:Tok),7e7->Q (.str (J7 sep (x.cps.toList.reverse.map λc=>⟨#[c]⟩)) u) 3.5) :
 wpAny 1.3 A (call (.builtin "str.join") [.str sep t0,.ref it]) Q E s:=by
 refine Mj (Mo F.slot_str_join.plain F.entry_str_join (F.slot_str_join.check _ _ _ _ _ _ _ _ (MM _ _ _) (F.args_str_join_2 _ _) ?_));rw[join_tree_other];refine GD (Tn hit.typeIs ?_);show wpAny _ A.in1 ((MJ 6.2).tryCatch _ >>= λit=>Na it >>= λitems=>joinTail sep items) _ _ s;refine GD (wpAny_tryCatch (zj2 hit ?_));refine GD (zry 6e1 hf hit λh' tk vs kp hl hv=>?_)
 obtain⟨l,el⟩:=exists_strValues vs λv hv'=>by
  obtain⟨j,hj,rfl⟩:=YT.mp hv';obtain⟨c,u,_,e⟩:=hv j _ (Qg hj);exact⟨_,u,e⟩
 have ey:l.map (·.1)=x.cps.toList.reverse.map λc=>(⟨#[c]⟩:Str):=by
  have ll:l.length=x.cps.size:=by rw[<- hl,<- el];simp[strValues]
  refine Z6 λi=>?_
  by_cases hi:i<l.length
  .have e1:vs[i]? = some (.str l[i].1 l[i].2):=by rw[<- el];simp[strValues,hi]
   obtain⟨c,u,hc,e⟩:=hv i _ e1;injection e with e2 _;rw[Ql,Ql,Qg hi,JQ (by simpa using by lia)];simp only[Jf,ZP,JJ];rw[hc,e2];rfl
  .rw[Q9 1e7,Q9 5.0]
 have hok:tooLong ((l.map (·.1)).toArray.foldl (· + ·.length+sep.length) 0)=false:=by
  have:=@joinOk_of sep (l.map (·.1)) (by
   rw[ey]
   have e1:((x.cps.toList.reverse.map λc=>(⟨#[c]⟩:Str)).map (·.length)).sum=x.length:=by
    have go:∀l:List Nat,((l.map λc=>(⟨#[c]⟩:Str)).map (·.length)).sum=l.length:=by
     intro l
     induction l with
     | nil=>rfl
     | cons c l ih=>rw[Qy,Qy,Gz,ih,Qq,Y3];rfl
    rw[go,Z4];rfl
   rw[e1,Qf,Z4]
   exact hz)
  unfold JoinOk at this;rwa [Y7] at this
 rw[<- el]
 have g:Gives (joinTail sep (strValues l)) (joinMade sep l):=by
  have g0:=gives_joinTail sep l hok
  cases l with
  | nil=>exact g0
  | cons p r=>cases r with
    | nil=>exact g0
    | cons q r'=>exact g0
 rw[<- ey] at k;exact g prog w A (wants Q E) _ (post_join l ⟨joinFit_length hok,λt' j=>k h' j t' kp⟩)
end
end RT
namespace L3
open PySem PySem.Spec
open PyProof.Rows hiding St
open L2
def tJR(K:Qa)(to te:TE):TE:=λσ H Q=>to σ H λx H1=>∃sep,x = .str sep/\te σ H1 λv H2=>∃y,v = .str y/\y.length<=sizeLine/\y.length+y.length * sep.length<=16777216/\Q (.str (J7 sep 26.2)) H2
theorem ztr{to:TE}{apos cpos:Pos}(hc:6e4)(gE:Gl X "reversed")(mE:X.mg "reversed" = none)(ho:PE X o to)(he:9e6)
 (hbase:GM o "join" X.env (eval o X.env)=eval o X.env:=by rfl)
 (hfew:((Tg cpos (GI [.Call 8.8 [e] [] p2] X.env)).all 20.7 && (TC cpos (Ti [] X.env)).all 7.4
  && decide (([.Call 8.8 [e] [] p2]:List Expr).length+([]:List Td).length+4.0<30))=true:=by rfl)
 (hline:4.4:=by rfl) (hs:GI [.Call 8.8 [e] [] p2] X.env=(false,eval (.Call 8.8 [e] [] p2) X.env)::GI [] X.env:=by rfl) (s1:GI [e] X.env=6.6::GI [] X.env:=by rfl) :
 PE X (.Call (.Attribute o "join" apos) [.Call 8.8 [e] [] p2] [] cpos) (tJR X.K to te):=by
 intro pins s σ H Q I h;refine Mf hbase hfew hline rfl (thn (ho pins s σ H _ I h) λv s1' zz=>?_);obtain⟨x,H1,I1,r1,sep,ex,q1⟩:=zz;subst ex;obtain⟨h1,h2⟩:=zpt (T := "str") I1 r1 rfl;refine⟨"str", "str.join",Jg,YG,YH,h1,h2,?_⟩;obtain⟨t0,rfl⟩:=r1;rw[hs];refine JD rfl (YR ?_);show wpAny _ _ (Mm ((false,eval (.Call 8.8 [e] [] p2) X.env) :: [])) _ _ _;refine QV ?_;refine GW (zbt I1 gE mE zjh ?_);refine Zl ?_ s1;rw[s1];show wpAny _ _ (Mm (6.6 :: [])) _ _ _;refine QV (thn (he pins s1' σ H1 _ I1 q1) λu s2 zz=>?_);obtain⟨w,H2,I2,r2,y,ey,hy,hz,q⟩:=zz;subst ey;obtain⟨t,rfl⟩:=r2;refine Zu ?_;have sz:=GK;refine RT.call_rev 0.0 λtk=>?_;refine Zu ?_;have hr:RT.IsRev (s2.heap.push (RT.revS y t ((y.length:Int)-1))) s2.heap.objs.size y t ((y.length:Int)-1):=⟨_,Qp _ rfl,rfl,rfl⟩;have I3:Inv X pins σ H2 { s2 with heap:=s2.heap.push (RT.revS y t ((y.length:Int)-1)),toks:=tk }:=I2.kept (t':=tk) λb o e=>Qb _ e;obtain⟨f0,f1,f2,f3,f4,f5⟩:FpOk X pins H2 s2.heap.objs.size:=I2.fpOk (Qi _) (I2.hok.fresh (Qi _));refine RT.join_rev (s:={ s2 with heap:=s2.heap.push (RT.revS y t ((y.length:Int)-1)),toks:=tk }) (I2.ok.hd hc) hy hr hz λh' tk' u kp=>?_;exact⟨.str _,H2,I3.turned (t':=tk') kp f0 f1 f3 f4 f5,⟨u,rfl⟩,q⟩
def zy5(fo fa:DE):DE:=λρ Q=>fo ρ λr0=>∃sep,r0.d = .str sep/\fa ρ λr=>∃y:Str,r.d = .str y/\y.length<=sizeLine/\y.length+y.length * sep.length<=16777216/\Q (.o (.str (J7 sep 26.2)))
theorem zti{K:Qa}{O:Ob}{to ta:TE}{fo fa:DE}(ho:ED K O to fo)(ha:ED K O ta fa):ED K O (tJR K to ta) (zy5 fo fa):=λσ H ρ Q Qd S hf k=>by
 refine ho σ H ρ _ _ S hf λv H1 r0 s1 o1 zz=>?_;obtain⟨sep,e0,q1⟩:=zz;have i0:=o1.is S.ok S.p;rw[e0] at i0;cases i0;refine⟨sep,rfl,?_⟩;refine ha σ H1 ρ _ _ 5e4 q1 λw H2 r s2 o2 zz=>?_;obtain⟨y,e,hy,hz,q⟩:=zz;have i1:=o2.is S.ok (s1.p S.p);rw[e] at i1;cases i1;exact⟨y,rfl,hy,hz,k _ H2 (.o _) 4.9 22.4 q⟩
section
variable {ι κ:Type}{P:GJ}{w:GL}{K:Qa}{mg:0.1}{base:Heap}{k:Nat}{X:0e1}{O:1e5}{a b:Expr}{fa fb:DE}{pos p1 p2:Pos}
theorem zn7{apos:Pos}(C:0.8)(B:7.1)(ho:1.6)(hb:3.7)(hg:∀i,Gl (X i) "reversed" := by intro i;rfl)(hbase:∀i,GM a "join" (X i).env (eval a (X i).env)=eval a (X i).env:=by intro i;rfl)
 (hfew:∀i,((Tg pos (GI [.Call 8.8 [b] [] p2] (X i).env)).all 20.7 && (TC pos 24.9).all 7.4 && decide (([.Call 8.8 [b] [] p2]:List Expr).length+([]:List Td).length+4.0<30))=true:=by intro i;rfl)
 (hline:(apos.endLine == pos.line)=true:=by rfl) (hs:∀i,GI [.Call 8.8 [b] [] p2] (X i).env=(false,eval (.Call 8.8 [b] [] p2) (X i).env)::GI [] (X i).env:=by intro i;rfl) (hs1:∀i,GI [b] (X i).env=1e4::GI [] (X i).env:=by intro i;rfl) :
 E3 K X O (.Call (.Attribute a "join" apos) [.Call 8.8 [b] [] p2] [] pos) (zy5 fa fb) :=
 let ⟨_,q1,d1⟩:=ho;let ⟨_,q2,d2⟩:=hb;⟨tJR K _ _,λi=>by
  have h:=ztr (apos:=apos) (cpos:=pos) (p1:=p1) (p2:=p2) 18.7 (hg i) 24.0 (q1 i) (q2 i) 18.3 (hfew i) hline (hs i) (hs1 i);rw[C.hK] at h
  exact h,λj=>zti (d1 j) (d2 j)⟩
end
theorem ztx(w:0.7):J7 "" (w.map sg)=tx w:=by
 have:=z7w (w.map λc=>[c]);rw[QK,show(tx ∘ λc=>[c])=sg from rfl] at this;rw[this]
 congr 1
 clear this
 induction w with
 | nil=>rfl
 | cons c w ih=>rw[Qy,ZN,ih];rfl
theorem z5r{w:0.7}{Q:9e0}(hl:w.length<=16777216)(q:Q (.o (tS w.reverse))):∃y:Str,(R.o (tS w)).d = .str y/\y.length<=sizeLine/\y.length+y.length * (Qj "").length<=16777216/\Q (.o (.str (J7 (Qj "") 26.2))):=by
 have sz:=GK;have e0:(Qj "").length=0:=by decide +kernel
 refine⟨tx w,rfl,by rw[za7];lia,by rw[za7,e0];lia,?_⟩;rw[zax,show J7 (Qj "") (w.reverse.map sg)=tx w.reverse from ztx _];exact q
end L3
namespace L3
open PySem PySem.Spec
open PyProof.Rows hiding St
open L2 L6
def zfq(ws:2.9):List 1.2:=ws.mergeSort λa b=>!wlt b a
theorem zhg{α β:Type}{r:1e8}{s:β->β->Bool}{f:α->β}{l:6.5}(hr:∀a∈l,∀b∈l,r a b=s (f a) (f b)):(l.mergeSort r).map f=(l.map f).mergeSort s:=List.map_mergeSort hr
theorem zq7(hk:∀w∈ws,kf (tS w)=(((w.length:Nat):Int),tx w)):zf7 kf 21.5=(zfq ws).map tS:=by
 unfold zf7 zfq;refine(zhg λa ha b hb=>?_).symm;have h1:kfl kf (tS a)=(((a.length:Nat):Int),a):=by unfold kfl;rw[hk a ha];show(_,(tx a).cps.toList)=_;rw[zax]
 have h2:kfl kf (tS b)=(((b.length:Nat):Int),b):=by unfold kfl;rw[hk b hb];show(_,(tx b).cps.toList)=_;rw[zax]
 rw[h1,h2,z7p]
def wkey:GF->Int×Str
 | .str x=>((x.length:Nat),x)
 | _=>(0,QO)
theorem zsl(w:0.7):wkey (tS w)=(((w.length:Nat):Int),tx w):=by
 show((((tx w).length:Nat):Int),tx w)=_;rw[za7]
theorem z0w(w:0.7):PyData.tuple [.int (wkey 22.9).1,.str (wkey 22.9).2] = .tuple [.int (w.length:Nat),tS w]:=by
 rw[show Zx (tx w)=tS w from rfl,zsl]
theorem zrx(ws:2.9):zf7 wkey 21.5=(zfq ws).map tS:=zq7 λw _=>zsl w
theorem zvy: w∈zfq ws↔w∈ws:=UD
theorem z0h(ws:2.9):(zfq ws).Pairwise λa b=>wlt b a=false:=by
 have:=Yx (le:=λa b=>!wlt b a) (λa b c h1 h2=>?_) (λa b=>?_) ws
 .exact this.imp λh=>by simpa using h
 .have h1:wlt b a=false:=by simpa using h1
  have h2:wlt c b=false:=by simpa using h2
  show(!wlt c a)=true
  cases h:wlt c a with
  | false=>rfl
  | true=>
    rcases z7y c b a h with z|z
    .rw[z] at h2;cases h2
    .rw[z] at h1;cases h1
 .show(!wlt b a || !wlt a b)=true;cases h1:wlt b a <;> cases h2:wlt a b <;> try rfl
  have:=zp9 _ _ _ h1 h2;rw[zij] at this;cases this
theorem z1u(h:ws.Nodup):(zfq ws).Nodup:=(Yl ws _).nodup_iff.mpr h
theorem zq8(h:ws.Nodup):(zfq ws).Pairwise λa b=>wlt a b=true:=by
 have h1:=z0h ws;have h2:(zfq ws).Pairwise λa b=>a≠b:=z1u h;refine(h1.and h2).imp λ{a b} h=>?_
 cases z:wlt a b with
 | true=>rfl
 | false=>exact absurd (zr6 a b z h.1) h.2
theorem zrg{l ks:List Key}(h:ks.Nodup):(l.foldl DU.addK ks).Nodup:=by
 induction l generalizing ks with
 | nil=>exact h
 | cons k l ih=>exact ih (DU.addK_nodup h)
theorem ztq(xs:2.4):((QH xs.length).map λj=>(Zc (xs.getD j QO):Key))=xs.map Zc:=by
 refine Z6 λi=>?_
 by_cases h:i<xs.length
 .simp[h]
 .rw[Q9 5.0,Q9 5.0]
theorem zoc{α β:Type}{f:α->β}(hf:∀a b,f a=f b->a=b){l:6.5}(h:l.Nodup):(l.map f).Nodup:=by
 refine Js.mpr (h.imp λ{a b} h e=>h (hf a b e))
theorem zdh{α β:Type}{f:α->β}{l:6.5}(h:(l.map f).Nodup):l.Nodup:=by
 have h:=Js.mp h;exact h.imp λ{a b} h e=>h (NA f e)
theorem zyy{fs gs:2.9}{ls:2.4}(h:fs.Nodup)(e:(ls.map Zc:List Key)=(((QH (gs.map tx).length).map λj=>(Zc ((gs.map tx).getD j QO):Key)).foldl DU.addK []).foldl DU.addK ((fs.map tx).map Zc)):
 ∃hs:List 1.2,ls=hs.map tx/\hs.Nodup/\∀x,x∈hs↔x∈fs\/x∈gs:=by
 rw[ztq] at e;have inj:∀a b:List Nat,tx a=tx b->a=b:=λa b=>zga
 have m:∀x:Str,x∈ls↔x∈fs.map tx\/x∈gs.map tx:=λx=>by
  have h1:(Zc x:Key)∈(ls.map Zc:List Key)↔x∈ls:=by simp
  rw[<- h1,e,DU.mem_foldl,DU.mem_foldl];simp
 have nd:ls.Nodup:=by
  refine zdh (f:=(Zc:Str->Key)) ?_;rw[e];refine zrg (zoc (λa b z=>by injection z) (zoc inj h))
 obtain⟨hs,rfl⟩:∃hs:List 1.2,ls=hs.map tx:=by
  refine⟨ls.map λs=>s.cps.toList,?_⟩;rw[QK];refine(G5 (λs=>?_) ls).symm;show tx s.cps.toList=s;cases s;rfl
 refine⟨hs,rfl,zdh nd,λx=>?_⟩;have:=m (tx x);have mi:∀l:List 1.2,tx x∈l.map tx↔x∈l:=λl=>⟨λh=>by obtain⟨y,hy,e⟩:=QA.mp h;rw[inj _ _ e] at hy;exact hy,λh=>QA.mpr ⟨x,h,rfl⟩⟩;rw[mi,mi,mi] at this;exact this
def subs:Nat->List Nat->List 1.2
 | _,[]=>[[]]
 | 0,_::_=>[[]]
 | n+1,c::w=>subs (n+1) w++(subs n w).map (c :: ·)
theorem mem_subs:∀{w:0.7} {n:Nat} {x:0.7},x∈subs n w↔x.Sublist w/\x.length<=n
 | [],n,x=>by
   constructor
   .intro h;have:x = []:=by cases n <;> (unfold subs at h;simpa using h)
    subst this;exact⟨.slnil,Qw _⟩
   .rintro⟨h,_⟩;have:x = []:=by simpa using h
    subst this;cases n <;> (unfold subs;simp)
 | c::w,0,x=>by
   unfold subs;constructor
   .intro h;have:x = []:=by simpa using h
    subst this;exact⟨List.nil_sublist _,Qw _⟩
   .rintro⟨_,h⟩;have:x = []:=Yz.mp 0.0;subst this;simp
 | c::w,n+1,x=>by
   unfold subs;rw[Qx,QA,mem_subs];constructor
   .rintro(⟨h1,h2⟩|⟨y,hy,rfl⟩)
    .exact⟨h1.cons c,h2⟩
    .obtain⟨h1,h2⟩:=mem_subs.mp hy;exact⟨h1.cons₂ c,by rw[Qq];lia⟩
   .rintro⟨h1,h2⟩
    cases h1 with
    | cons _ h=>exact .inl ⟨h,h2⟩
    | cons_cons _ h=>exact .inr ⟨_,mem_subs.mpr ⟨h,by rw[Qq] at h2;lia⟩,rfl⟩
theorem zq4{α:Type}[DecidableEq α]:∀{xs ys:6.5},xs.Nodup->(∀k∈xs,k∈ys)->xs.length<=ys.length
 | [],_,_,_=>Qw _
 | x::xs,ys,h,hs=>by
   have hx:=hs x 0.3;obtain⟨h1,h2⟩:=QY.mp h
   have:=zq4 (xs:=xs) (ys:=ys.erase x) h2 λk hk=>by
    refine(List.mem_erase_of_ne λe:k=x=>h1 (e ▸ hk)).mpr (hs k (Qm _ hk))
   rw[List.length_erase_of_mem hx] at this;have:=List.length_pos_of_mem hx;rw[Qq];lia
theorem zz6{c:Nat}:x.Sublist (u ++ [c])↔x.Sublist u\/∃y,x=y ++ [c]/\y.Sublist u:=by
 rw[List.sublist_append_iff];constructor
 .rintro⟨a,b,rfl,h1,h2⟩
  cases h2 with
  | cons _ h=>
    have:b = []:=by simpa using h
    subst this;exact .inl (by simpa using h1)
  | cons_cons _ h=>
    rename_i b'
    have:b' = []:=by simpa using h
    subst this;exact .inr ⟨a,rfl,h1⟩
 .rintro(h|⟨y,rfl,h⟩)
  .exact⟨x,[],by simp,h,by simp⟩
  .exact⟨y,[c],rfl,h,V4 _⟩
theorem zs3{n b n' b':Nat}{neg:Bool}{d:GF}(h:Nice n b d)(h':Nice n' b' 27.3)(hn:n<=60:=by decide){q:Bool}(hq:q=true↔d∈es):inF neg d (.list es)=some 20.2:=by
 have e1:es.any (λy=>QB y d)=q:=by
  have hs:=h'.sol
  have all:∀y∈es,zbf y=true:=by
   have go:∀l:List GF,zcx l=true->∀y∈l,zbf y=true:=by
    intro l
    induction l with
    | nil=>intro _ y hy;simp at hy
    | cons a l ih=>
      intro hl y hy;simp only[zcx,Q6] at hl;rcases Q2.mp hy with z|z
      .rw[z];exact hl.1
      .exact ih hl.2 y z
   exact go es (by simpa[zbf] using hs)
  have:(es.any λy=>QB y d)=true↔q=true:=by
   rw[hq,Ji];constructor
   .rintro⟨y,hy,e⟩;rw[<- (zfh y d (all y hy) h.sol).mp e];exact hy
   .intro hd;exact⟨d,hd,(zfh d d h.sol h.sol).mpr rfl⟩
  generalize (es.any λy=>QB y d)=z at this ⊢;cases z <;> cases q <;> simp_all
 have hl:Zw es=true:=by have:=h'.lay;simpa[Jc] using this
 have key:inF neg d (.list es)=if(okD d && Zw es)=true then some (.o (.bool 7e4)) else none:=by
  cases d <;> rfl
 rw[key,h.okD hn,hl,Bool.and_self,N3 rfl,e1]
theorem z1x{neg:Bool}{x:0.7}{ws:2.9}(hx:Sml x)(hw:∀w∈ws,Sml w):inF neg (tS x) (.list 21.5)=some (.o (.bool (if neg then !decide (x∈ws) else decide (x∈ws)))):=by
 have nt:∀{w:0.7},Sml w->Nice 0 100 (tS w):=λ{w} h=>zjq (λc hc=>Y4 (h.2 c hc) 0.4) h.1;refine zs3 (n':=1) (nt hx) (zjy (n:=0) (b:=100) (m:=ws.length) (λw h=>nt (hw w h)) (Qi _)) (hq:=?_);rw[N8,QA];exact⟨λh=>⟨x,h,rfl⟩,λ⟨y,hy,e⟩=>zkq e ▸ hy⟩
theorem zmb{α:Type}{xs:6.5}{lo hi:3e4}{c:α}(h:c∈cutL xs lo hi):c∈xs:=by
 unfold cutL at h;exact YX (Ju h)
theorem zb3{α:Type}(xs:6.5)(lo hi:3e4):(cutL xs lo hi).length<=xs.length:=by
 unfold cutL;rw[Zt,Z0];lia
theorem z7r{n:Nat}{c:Nat}(h:c∈(Qn n v).flatten):c∈v:=by
 obtain⟨l,hl,hc⟩:=List.mem_flatten.mp h;rw[(List.mem_replicate.mp hl).2] at hc;exact hc
theorem z7l(v:0.7)(n:Nat):(Qn n v).flatten.length=n * v.length:=by simp
theorem z7u(h:LowW w)(hl:w.length<=100):Sml w:=⟨hl,λc hc=>by have:=h c hc;unfold zd2 at this;lia⟩
theorem zq2(hl:w.length<=16777216):∃y:Str,Zx (tx w) = .str y/\y.length<=sizeLine/\y.length+y.length * (Qj "").length<=16777216/\J7 (Qj "") 26.2=tx w.reverse:=by
 obtain⟨y,e1,e2,e3,e4⟩:=z5r (Q:=λr=>r = .o (tS w.reverse)) hl rfl;exact⟨y,e1,e2,e3,by injection e4 with e4;injection e4⟩
def zlf:List GF->2.0->Prop:=λds Q=>∃w:List Nat,ds = [tS w]/\w.length<=100/\∀r:R,r.d = .tuple [.int (w.length:Nat),tS w]->Q r
def Few(w:0.7)(n:Nat):Prop:=∀fs:List 1.2,fs.Nodup->(∀x∈fs,x.Sublist w/\x.length<=n)->fs.length<64
def zdx(ls:0.7):Nat->List 1.2
 | 0=>[[]]
 | n+1=>[]::ls.flatMap λc=>(zdx ls n).map (c :: ·)
theorem zfy: ∀{n:Nat} {x:0.7},(∀c∈x,c∈ls)->x.length<=n->x∈zdx ls n
 | 0,x,_,h=>by
   have:x = []:=Yz.mp 0.0;rw[this];exact Qo.mpr rfl
 | n+1,[],_,_=>Q0
 | n+1,c::x,hc,h=>by
   refine Qm _ (List.mem_flatMap.mpr ⟨c,hc c Q0,QA.mpr ⟨x,zfy (λd hd=>hc d (Qm _ hd)) ?_,rfl⟩⟩);rw[Qq] at h;lia
theorem zji{α β:Type}{f:α->List β}{m:Nat}(hf:∀a,(f a).length=m):∀l:List α,(l.flatMap f).length=l.length * m
 | []=>by simp
 | a::l=>by rw[List.flatMap_cons,Qk,hf,zji hf l,Qq,UJ,Y3]
theorem zch(ls:0.7):∀n,(zdx ls (n+1)).length=1+ls.length * (zdx ls n).length:=λn=>by
 show(List.flatMap _ ls).length+1=_;rw[zji (m:=(zdx ls n).length) (λa=>by rw[Qf]),Y3]
theorem zhq{w ls:0.7}{n:Nat}(hs:∀c∈w,c∈ls)(hl:ls.length<=3)(hn:n<=3):Few w n:=λfs nd h=>by
 have h3:(zdx ls 3).length<=40:=by
  rw[zch,zch,zch];show 1+ls.length * (1+ls.length * (1+ls.length * 1))<=40
  match ls.length,hl with
  | 0,_=>decide
  | 1,_=>decide
  | 2,_=>decide
  | 3,_=>decide
 have:=zq4 nd λx hx=>zfy (ls:=ls) (n:=3) (λc hc=>hs c ((h x hx).1.subset hc)) (by have:=(h x hx).2;lia);lia
def zgq:List GF->2.0->Prop:=λds Q=>∃(w:0.7) (n:Nat),ds = [tS w,.int (n:Nat)]/\Sml w/\n<=100/\Few w n/\∀L:List 1.2,L.Pairwise (λa b=>wlt a b=true)->(∀x,x∈L↔x.Sublist w/\x.length<=n)->Q (.o (.tuple (L.map tS)))
theorem z3h{L:2.9}(h:26.8):L.Nodup:=h.imp λ{a b} h e=>by rw[e,zij] at h;cases h
theorem zm7{w:0.7}{n:Nat}{L:2.9}(h:26.8)(m:∀x,x∈L↔x.Sublist w/\x.length<=n)(hf:Few w n):L.length<64:=hf L (z3h h) λx hx=>(m x).mp hx
theorem zmh(h:Sml w)(hs:x.Sublist w):Sml x:=⟨QF hs.length_le h.1,λc hc=>h.2 c (hs.subset hc)⟩
theorem zgc(h:Sml w):Nice 0 100 (tS w):=zjq (λc hc=>Y4 (h.2 c hc) 0.4) h.1
theorem zqs{w:0.7}{n:Nat}{L:2.9}(h:26.8)(m:∀x,x∈L↔x.Sublist w/\x.length<=n)(hs:Sml w)(hf:Few w n):Nice 1 (64 * (100+1)) (.tuple (L.map tS)):=zjy (λy hy=>zgc (zmh hs ((m y).mp hy).1)) (JC (zm7 h m hf))
def SubW(ls w:0.7):Prop:=∀c∈w,c∈ls
theorem SubW.low(h:SubW ls w)(hl:LowW ls):LowW w:=z6x hl h
theorem zdu(h:SubW ls v)(h':SubW ls w):SubW ls (v++w):=λc hc=>(Qx.mp hc).elim (h c) (h' c)
theorem z4i{c:Nat}(h:c∈ls):SubW ls [c]:=λd hd=>by rw[Qo.mp hd];exact h
def zve:List GF->2.0->Prop:=λds Q=>∃(ls:0.7) (n:Nat),ds = [.str (tx ls),.int n]/\LowW ls/\ls≠[]/\ls.length<=26/\n<=50/\∀w:List Nat,SubW ls w->w.length<=n->Q (.o 22.9)
def zyi:List GF->2.0->Prop:=λds Q=>∃(ls v:0.7) (n:Nat),ds = [tS ls,tS v,.int (n:Nat)]/\LowW ls/\ls≠[]/\ls.length<=26/\SubW ls v/\v.length<=50/\n<=50/\∀w:List Nat,SubW ls w->w.length<=n->Q (.o (tS w))
def zie(n:Nat)(v w:0.7):Prop:=∀x:List Nat,x.length<=n->(x.Sublist v↔x.Sublist w)
def zwf:List GF->2.0->Prop:=λds Q=>∃(v w:0.7) (n:Nat),ds = [tS v,tS w,.int (n:Nat)]/\Sml v/\Few v n/\Sml w/\Few w n/\n<=100/\∀b:Bool,(b=true↔zie n v w)->Q (.o 9e2)
theorem yb1{v w:0.7}{n:Nat}{L M:2.9}(h:26.8)(m:∀x,x∈L↔x.Sublist v/\x.length<=n)(h':M.Pairwise λa b=>wlt a b=true)(m':∀x,x∈M↔x.Sublist w/\x.length<=n):L=M↔zie n v w:=by
 constructor
 .intro e x hx;have h1:=m x;have h2:=m' x;rw[e] at h1;exact⟨λz=>(h2.mp (h1.mpr ⟨z,hx⟩)).1,λz=>(h1.mp (h2.mpr ⟨z,hx⟩)).1⟩
 .intro e;refine zzc h h' λx=>?_;rw[m,m'];exact⟨λz=>⟨(e x z.2).mp z.1,z.2⟩,λz=>⟨(e x z.2).mpr z.1,z.2⟩⟩
section
variable {K:Qa}{O:Ob}
def augS(i:Nat)(f:DE):DS:=λDd ρ=>∃a:Int,ρ[i]? = some (some (.im (.int a)))/\f ρ λr=>∃b:Int,r.d = .int b/\Dd.nx (ρ.set i (some (.im (.int (a+b)))))
theorem ycj{i:Nat}(h:5.1):SD K O (tAug i t (ipI λi j=>i+j)) (augS i f):=λH₀ A σ H ρ D Dd r q P=>by
 obtain⟨a,e,q⟩:=q;obtain⟨v,hv,iv⟩:=r.at_ i _ e;have iv':Is K 7.7 H v (.int a):=iv;cases iv';refine⟨_,hv,?_⟩;refine h σ H ρ _ _ r.seen q λw H1 x s1 o1 zz=>?_;obtain⟨b,eb,q1⟩:=zz;have i1:=o1.is r.ok r.p;rw[eb] at i1;cases i1;exact⟨a,b,rfl,rfl,P.nx _ _ H1 _ ((r.stp s1).setIm (.int (a+b))) (.setIm s1) q1⟩
def lrvD(f:DE):DE:=λρ Q=>f ρ λr=>∃ds,r.d = .list ds/\Q (.n ds.reverse)
theorem zno: ∀{xs:5.4} {ds:9.5},IsAll K F H xs ds->IsAll K F H xs.reverse ds.reverse
 | _,_,.nil=>.nil
 | _,_,.cons h t=>by
   rw[Y2,Y2];exact(zno t).snoc h
theorem zuu(h:5.1):ED K O (tLR K t) (lrvD f):=λσ H ρ Q Qd S hf k=>by
 refine h σ H ρ _ _ S hf λv H1 r s1 o1 zz=>?_;obtain⟨ds,e,q⟩:=zz;have i1:=o1.is S.ok S.p;rw[e] at i1
 cases i1 with
 | list f0 ha hs=>
   refine⟨_,_,rfl,.of ha,λp hp=>?_⟩;obtain⟨a1,a2⟩:=zb1 (K:=K) S.ok hp (zno hs);exact k _ _ _ (s1.trans a1) (Out.ahead S.ok S.p s1 a2) q
end
section
variable {ι κ:Type}{P:GJ}{w:GL}{K:Qa}{mg:0.1}{base:Heap}{k:Nat}{X:0e1}{O:1e5}{a b:Expr}{fa fb:DE}{pos p1 p2 p3 p4:Pos}
theorem z2o(n:Nat)(ha:1.6)(hN:0e7:=by intro i;exact N7 1.9)(hi:3.1:=by intro i;rfl)(hx:9.6:=by intro i;first|exact Or.inl rfl|exact Or.inr rfl)
 (hf:5.7:=by intro i;first|exact .inl rfl|exact .inr rfl):S3 K X O (.AugAssign 1.8 .Add a pos) (augS n fa) :=
 let ⟨_,q,d⟩:=ha;⟨_,λi=>yat (hN i) (hi i) (hx i) (q i) ybt (hf i),λj=>ycj (d j)⟩
theorem zy1(C:0.8)(B:7.1)(ha:1.6)(gl:∀i,Gl (X i) "list" := by intro i;rfl)(gr:∀i,Gl (X i) "reversed" := by intro i;rfl)
 (s1:∀i,GI [.Call 11.9 [a] [] p3] (X i).env=(false,eval (.Call 11.9 [a] [] p3) (X i).env)::GI [] (X i).env:=by intro i;rfl) (s2:9.7:=by intro i;rfl) :
 E3 K X O (.Call (.Name "list" p1) [.Call 11.9 [a] [] p3] [] p4) (lrvD fa) :=
 let ⟨_,q,d⟩:=ha;⟨tLR K _,λi=>by
  have h:=zlm (p1:=p1) (p2:=p2) (p3:=p3) (p4:=p4) (C.room i).hd (gl i) (by rw[C.hmg];exact B.list) (gr i) 24.0 (q i) (s1 i) (s2 i);rw[C.hK] at h
  exact h,λj=>zuu (d j)⟩
end
end L3
namespace L6
open PySem PySem.Spec
open PyProof.Rows hiding St
open L2 L3
section
variable {X:Cx}{pins:1.1}{σ:St}{H:Hp}{s:GH}
def lenK(y:Str):V:=.int (y.length:Nat)
def zxf(ta:TE):TE:=λσ H Q=>ta σ H λv H1=>∃(p:Addr) (ys:2.4),v = .ref p/\H1 p=some (.lst 7e0)/\ys.length<64/\(∀y∈ys,y.length<=sizeLine) /\
 ∀ix l,Ord (λa b:Int=>decide (a<b)) (λi=>(ys.map λy=>((y.length:Nat):Int)).getD i 0) ys.length ix->H1 l=none->Q 17.9 (upd H1 l (.lst (zdf .non 7e0 ix)))
theorem z1k(hg:Gl X "sorted")(hm:X.mg "sorted" = none)(hgl:Gl X "len")(hml:X.mg "len" = none)(ha:26.0)(hs:GI [a] X.env = [(false,eval a X.env)]:=by rfl):
 PE X (.Call (.Name "sorted" p) [a] [⟨some "key",.Name "len" px,kp⟩] pos) (zxf ta):=by
 intro pins s σ H Q I h;refine GW (zbt I hg hm zff ?_);refine callWith_kw ?_ (by rw[hs];rfl) (by rw[hs];rfl) rfl rfl;rw[hs];refine QV (thn 8.1 λu s1 zz=>?_);obtain⟨v,H1,I1,r1,q,ys,ev,hq,h64,hys,go⟩:=zz;subst ev;obtain rfl:u=QP q:=r1;refine Zu ?_;refine kws_cons (zbt I1 hgl hml PySem.boot_len (kws_nil ?_));show wpAny 0.5 X.A (call 20.0 [.ref q] [(Qj "key",.builtin "len")]) _ _ s1;obtain⟨hz,vs,n,rv,hlv,e1⟩:=I1.lstM hq;have hlm:(ys.map V.str).length=ys.length:=Qf ..;have hv64:vs.length<64:=by lia
 refine MH Nq Nl Nj (Uw _ _) ?_;unfold Builtin.«sorted»;refine GD (m:=checkCount "sorted" 1 1 _) 0e6;refine GD (collect_list ⟨_,e1,rfl,n,rfl⟩ ?_ (by rw[GK];lia));refine GD (Mn ?_);generalize eh0:(s1.heap.push 7.9).update s1.heap.objs.size (QJ (· ++ vs.toArray))=h0;have sz0:h0.objs.size=s1.heap.objs.size+1:=by rw[<- eh0,VG,M0]
 have k0:∀b u,s1.heap.get? b=some u->h0.get? b=some u:=λb u e=>by
  rw[<- eh0,QS _ _ _ _ (Qz (Qs e))];exact Qb _ e
 have hoL:(h0.push 5.3).get? h0.objs.size=some 5.3:=Qp _ rfl;show wpAny 0.5 X.A.in1 _ _ _ { s1 with heap:=h0.push 5.3 };refine GD (GU (wpAny_call_entry_kw MW ⟨_,hoL,rfl⟩ MP ?_ (Ux _ _)));rw[PyProof.Rows.ksk_t4];unfold Ub;refine GD (Mw hoL rfl ?_);refine GD (TV hoL rfl ?_ 27.6);obtain⟨ea,ho1⟩:∃ea,((h0.push 5.3).update h0.objs.size 8e1).get? h0.objs.size=some 4e4:=⟨_,TB hoL (λ_=>#[])⟩;refine GD (Nr ho1 rfl ?_);refine GD (MY ?_);refine GD (Mn ?_);refine GU ?_;generalize eh2:(h0.push 5.3).update h0.objs.size 8e1=h2 at ho1;have sz2:h2.objs.size=h0.objs.size+1:=by rw[<- eh2,VG,M0]
 have k2:∀b u,s1.heap.get? b=some u->h2.get? b=some u:=λb u e=>by
  have:=k0 b u e;rw[<- eh2,QS _ _ _ _ (Qz (Qs this))];exact Qb _ this
 -- the list that is sorted,the keys' list
 generalize eq2:h0.objs.size=q2 at ho1 hoL sz2 sz0;generalize eh3:h2.push (seqObj "tuple" vs.toArray 0)=h3;have sz3:h3.objs.size=q2+2:=by rw[<- eh3,M0,sz2]
 have k3:∀b u,h2.get? b=some u->(h3.push 7.9).get? b=some u:=λb u e=>by
  refine Qb _ ?_;rw[<- eh3];exact Qb _ e
 show wpAny 0.5 X.A.in1.in1 (Uc q2 (.builtin "len") false vs.toArray ea (.ref h3.objs.size)) _ _ { s1 with heap:=h3.push 7.9 };have fq:FpOk X pins H1 q2:=I1.fpOk 0.0 (I1.hok.fresh 0.0);have fk:FpOk X pins H1 h3.objs.size:=I1.fpOk 0.0 (I1.hok.fresh 0.0);have hne:h3.objs.size≠q2:=by lia
 have I2:Inv X pins σ H1 { s1 with heap:=h3.push 7.9 }:=I1.kept (t':=s1.toks) λb u e=>k3 b u (k2 b u e);have oq:=k3 _ _ ho1;have ok:(h3.push 7.9).get? h3.objs.size=some 7.9:=Qp _ rfl;generalize h3.push 7.9=h4 at I2 oq ok ⊢;generalize h3.objs.size=kS at fk hne ok ⊢
 refine zps (λi ks s'=>∃(e:Nat),Inv X pins σ H1 s'/\s'.heap.get? q2=some 4e4/\s'.heap.get? kS=some 16.3/\Vals ((ys.take i).map lenK) ks/\i<=ys.length) hv64
  ⟨0,I2,oq,ok,.nil,Qw _⟩ (λi x ks s' hx hk ⟨e,I',o1,o2,rk,hi0⟩=>?_) λks s' hl ⟨e,I',o1,o2,rk,hi0⟩=>?_
 .have hi:i<vs.length:=(Qc.mp hx).1;have hi':i<ys.length:=by lia
  obtain⟨u,hu,ru⟩:=Vals.get rv (i:=i) (x:=V.str ys[i]) (by rw[Ql,Qg hi'];rfl);rw[hx] at hu;cases hu;obtain⟨t,rfl⟩:=ru;have sz:=GK;have hyi:=hys _ (QQ hi');refine P.len_str 0.0 ?_;have I5:Inv X pins σ H1 { s' with toks:=s'.toks+1+1 }:=I'.tok _
  obtain⟨e',eu⟩:∃e',(s'.heap.update kS (QJ (·.push (JN (ys[i].length:Nat) (s'.toks+1))))).get? kS=some (seqObj "list" (ks ++ [JN (ys[i].length:Nat) (s'.toks+1)]).toArray e'):=by
   have z:=TB o2 (λxs=>xs.push (JN (ys[i].length:Nat) (s'.toks+1)));have z2:ks.toArray.push (JN (ys[i].length:Nat) (s'.toks+1))=(ks ++ [JN (ys[i].length:Nat) (s'.toks+1)]).toArray:=by simp
   exact⟨_,z.trans (NA (λa=>some (seqObj "list" a _)) z2)⟩
  refine⟨⟨e,o2⟩,e',I5.turned (it:=kS) (t':=s'.toks+1+1) 16.6 fk.1 fk.2.1 fk.2.2.2.1 fk.2.2.2.2.1 fk.2.2.2.2.2,?_,eu,?_,hi'⟩
  .show(s'.heap.update kS _).get? q2=_;rw[QS _ _ _ _ (ZD hne)];exact o1
  .rw[Z9 hi',QG];exact Vals.append rk (.cons ⟨_,rfl⟩ .nil)
 .have eL:vs.length=ys.length:=by lia
  rw[eL,ZJ] at rk
  have kv:KeysV X.K H1 (ys.map lenK) Int (λa b=>decide (a<b)) (λi=>(ys.map λy=>((y.length:Nat):Int)).getD i 0):=by
   have:=KeysV.int (K:=X.K) (H:=H1) (ys.map λy=>((y.length:Nat):Int));rw[QK] at this;exact this
  refine⟨Int,_,_,e,o2,o1,hne,zpf I' kv rk hl,λix o=>⟨_,rfl,GG 14.5⟩⟩;have IA:=I'.turned (it:=kS) (t':=s'.toks) (h':=s'.heap.update kS 8e1) 16.6 fk.1 fk.2.1 fk.2.2.2.1 fk.2.2.2.2.1 fk.2.2.2.2.2
  have oA:(s'.heap.update kS 8e1).get? q2=some 4e4:=by
   rw[QS _ _ _ _ (ZD hne)];exact o1
  refine⟨.ref q2,upd H1 q2 (.lst (zdf .non 7e0 ix)),IA.adopt (t':=s'.toks) ⟨fq.1,fq.2⟩ (λb u hb z=>by rw[QS _ _ _ _ hb];exact z) ?_,rfl,go ix q2 (by rw[<- eL];exact o) fq.1⟩;refine⟨by unfold zdf;rw[Qf,Z7];exact hz,zc2 vs ix,_,Vals.pick rv o.bj,TB oA _⟩
end
end L6
namespace L3
open PySem PySem.Spec
open PyProof.Rows hiding St
open L2 L6
def zdw(ys:2.4):List Str:=ys.mergeSort λp q=>!decide (((q.length:Nat):Int)<((p.length:Nat):Int))
def zxi(f:DE):DE:=λρ Q=>f ρ λr=>∃ys:List Str,r.d = .list 22.7/\ys.length<64/\(∀y∈ys,y.length<=sizeLine)/\Q (.n ((zdw ys).map .str))
theorem znq{K:Qa}{F:7.6}{H:Hp}:∀ys:List Str,IsAll K F H 7e0 22.7
 | []=>.nil
 | y::ys=>.cons 8e0 (znq ys)
theorem z0a{K:Qa}{O:Ob}{t:TE}{f:DE}(h:5.1):ED K O (zxf t) (zxi f):=λσ H ρ Q Qd S hf k=>by
 refine h σ H ρ _ _ S hf λv H1 r s1 o1 zz=>?_;obtain⟨ys,e,hl,hz,q⟩:=zz;have i:=o1.is S.ok S.p;rw[e] at i
 cases i with
 | list f1 a1 b1=>
   rename_i a xs
   rw[zep b1] at a1;refine⟨a,ys,rfl,a1,hl,hz,λix l od hn=>?_⟩
   have es:((QH ys.length).map λi=>ys.getD (ix i) QO)=zdw ys:=by
    have up:Up (λa b:Int=>decide (a<b)) (λi=>((((ys.getD i QO)).length:Nat):Int)) ix ys.length:=by
     intro i j hij hj;have:=od.up i j hij hj;have h1:=od.bj.lt i 0.0;have h2:=od.bj.lt j hj
     have key:∀m,m<ys.length->((((ys.getD m QO)).length:Nat):Int)=(ys.map λy=>((y.length:Nat):Int)).getD m 0:=λm hm=>by
      simp[Q5,hm]
     unfold Rk at this ⊢;dsimp only at this ⊢;rw[key _ h1,key _ h2];exact this
    have:=zki (key:=λy:Str=>((y.length:Nat):Int)) (g:=λi=>ys.getD i QO) zwk up od.bj;rw[this];unfold zdw
    congr 1
    refine Z6 λi=>?_
    by_cases hi:i<ys.length
    .simp[hi]
    .rw[Q9 5.0,Q9 0.0]
   have ep:zdf .non 7e0 ix=(zdw ys).map V.str:=by
    rw[<- es];unfold zdf;rw[Qf,QK];refine Yk λi hi=>?_;have:=od.bj.lt i (ZZ.mp hi);simp[Q5,this]
   rw[ep];obtain⟨c1,c2⟩:=zb1 (K:=K) S.ok hn (znq (zdw ys));exact k _ _ _ (s1.trans c1) (c2.ahead S.ok S.p s1) q
theorem zxm{ι κ:Type}{P:GJ}{w:GL}{K:Qa}{mg:0.1}{base:Heap}{k:Nat}{X:0e1}{O:1e5}{a:Expr}{fa:DE}{pos p px kp:Pos}(C:0.8)(B:7.1)(ha:1.6)
 (hg:∀i,Gl (X i) "sorted" := by intro i;rfl) (hgl:∀i,Gl (X i) "len" := by intro i;rfl) (hs:∀i,GI [a] (X i).env = [4.2]:=by intro i;rfl) :
 E3 K X O (.Call (.Name "sorted" p) [a] [⟨some "key",.Name "len" px,kp⟩] pos) (zxi fa) :=
 let ⟨_,q,d⟩:=ha;⟨_,λi=>z1k (hg i) (by rw[C.hmg];exact B.sorted) (hgl i) (by rw[C.hmg];exact B.len) (q i) (hs i),λj=>z0a (d j)⟩
end L3
namespace L3
open PySem PySem.Spec
open PyProof.Rows hiding St
open L2
open SX
def tSSw(K:Qa)(te:TE):TE:=λσ H Q=>te σ H λv H1=>∃ys:List Str,TxsV K H1 v ys/\ys.length<=4090/\(∀zs:List Str,zs.Nodup->(∀k∈zs,k∈ys)->zs.length<64)/\∀(zs:2.4) p,zs.Nodup->(∀k,k∈zs↔k∈ys)->Nm zs=true->H1 p=none->Q 6e6 (upd H1 p (.lst (zs.map V.str)))
theorem zr1(hc:6e4)(gl:Gl X "sorted")(ml:X.mg "sorted" = none)(gr:Gl X "set")(mr:X.mg "set" = none)(he:9e6)
 (s1:GI [.Call 19.5 [e] [] p3] X.env=(false,eval (.Call 19.5 [e] [] p3) X.env)::GI [] X.env:=by rfl) (s2:GI [e] X.env=6.6::GI [] X.env:=by rfl) :
 PE X (.Call (.Name "sorted" p1) [.Call 19.5 [e] [] p3] [] p4) (tSSw X.K te):=by
 intro pins s σ H Q I h;have calm:=I.ok.hd hc;refine GW (zbt I gl ml zff ?_);refine J4 ?_ s1;rw[s1];show wpAny _ _ (Mm ((false,eval (.Call 19.5 [e] [] p3) X.env) :: [])) _ _ s;refine QV ?_;refine GW (zbt I gr mr (u:=.type "set") rfl ?_);refine Zl ?_ s2;rw[s2];show wpAny _ _ (Mm (6.6 :: [])) _ _ s;refine QV (thn 5.9 λu s' zz=>?_);obtain⟨y,H1,I1,r1,ys,hy,hz,hfew,q⟩:=zz;refine Zu ?_
 have fin:∀(n:Nat) (val:Nat->Str) (h':Heap) (tk:Nat) (es:Es) (ep:Nat) (t:TR),(∀k,(∃j,j<n/\val j=k)↔k∈ys)->Tx X.prog X.w h' s'.heap.objs.size es ep t->(∀x,x∈keys es↔∃j,j<n/\val j=x)->Ext s'.heap h' ->
  wpAny 0.5 X.A (Mm []) (λa s₁=>wpAny 0.5 X.A (call 20.0 (QP s'.heap.objs.size::a)) 7.0 X.xe s₁) X.xe { s' with heap:=h',toks:=tk }:=λn val h' tk es ep t hv T hk ex=>by
  have mem:∀k,k∈keys es↔k∈ys:=λk=>(hk k).trans (hv k)
  have z64:es.size<64:=by
   have:=hfew _ T.nd (λk hk=>(mem k).mp hk);simpa[keys] using this
  refine Zu ?_;refine zu8 (s:={ s' with heap:=h',toks:=tk }) calm T z64 λh2 d2 tk2 out c zs l ex2 hl el st zp zs'=>?_;have lt':s'.heap.objs.size<=l:=QF (JC (T.lts (s:={ s' with heap:=h',toks:=tk }))) hl;have I2:=(Inv.draw (I1.laid (a:=l) (o:=.lst (zs.map V.str)) (t':=tk2) (h':=h2) (λb o e=>ex2 b o (ex b o e)) lt' ?_) d2)
  .exact⟨.ref l,_,I2,rfl,q zs l (zp.nodup_iff.mpr T.nd) (λk=>by rw[zp.mem_iff];exact mem k) zs' (I1.hok.fresh lt')⟩
  .refine⟨?_,out.toList,c,zex st,by simpa using el⟩;rw[Qf,zp.length_eq];simp only[keys,Qf,Jf];exact Me T.lt
 rcases hy with ⟨x,rfl,rfl⟩|⟨a,rfl,hq⟩
 .obtain⟨tk,rfl⟩:=r1;have hn:x.cps.size<=4090:=by simpa using hz
  refine znu (T := "str") (val:=λi=>sg (x.cps.getD i 0)) calm (λ_ _=>rfl) ?_ ?_ 0.4 (ycw x tk) (λi v hv=>?_) (by unfold scanBound;lia) λh' tk' es ep t T hk ex=>fin x.cps.size _ h' tk' es ep t (λk=>?_) T hk ex
  .rw[Te];kernel_rfl
  .rw[Te];kernel_rfl
  .obtain⟨c,u,hc,rfl⟩:=hv;exact⟨u,by rw[Vf,hc];rfl⟩
  .constructor
   .rintro⟨j,hj,rfl⟩;exact QA.mpr ⟨x.cps[j],by simp,by simp[hj]⟩
   .intro hk;obtain⟨c,hc,rfl⟩:=QA.mp hk;obtain⟨j,hj,e⟩:=Ym hc;have hj':j<x.cps.size:=by simpa using hj
    exact⟨j,hj',by simp at e;simp[hj',e]⟩
 .cases r1;obtain⟨its,rv,pl,hz2⟩:=I1.list hq;have sa:=zhc rv;have ln:its.length=ys.length:=by have:=rv.length;simp at this;exact this.symm
  refine znu (T := "list") (val:=λi=>ys.getD i (sg 0)) calm (λs₁ ex=>?_) F.sub_list_set F.sub_list_frozenset 0.4 (z9s pl.isList) (λi v hv=>?_) (by unfold scanBound;simp;lia) λh' tk' es ep t T hk ex=>fin _ _ h' tk' es ep t (λk=>?_) T hk ex
  .obtain⟨o,e,c,_⟩:=pl.isList;exact⟨o,ex _ o e,c⟩
  .have hv':its[i]? = some v:=by simpa using hv
   have hi:i<ys.length:=by
    obtain⟨z,_⟩:=Qc.mp hv';lia
   obtain⟨u,hu,ru⟩:=rv.get (i:=i) (x:=V.str ys[i]) (by rw[Ql,Qg hi];rfl);rw[hv'] at hu;cases hu;obtain⟨u,rfl⟩:=ru;exact⟨u,by rw[Q5,Qg hi];rfl⟩
  .have e:its.toArray.size=ys.length:=by simpa using ln
   rw[e];constructor
   .rintro⟨j,hj,rfl⟩;rw[Q5,Qg hj];exact QQ hj
   .intro hk;obtain⟨j,hj,e⟩:=Ym hk;exact⟨j,hj,by rw[Q5,Qg hj];exact e⟩
def ssDw(f:DE):DE:=λρ Q=>f ρ λr=>∃ys:List Str,TxsD r.d ys/\ys.length<=4090/\(∀zs:List Str,zs.Nodup->(∀k∈zs,k∈ys)->zs.length<64)/\∀zs:List Str,zs.Nodup->(∀k,k∈zs↔k∈ys)->Nm zs=true->Q (.n (zs.map .str))
theorem ya8{K:Qa}{O:Ob}{te:TE}{f:DE}(h:ED K O te f):ED K O (tSSw K te) (ssDw f):=λσ H ρ Q Qd S hf k=>by
 refine h σ H ρ _ _ S hf λv H1 r s1 o1 zz=>?_;obtain⟨ys,hy,hl,hfew,q⟩:=zz;have i:=o1.is S.ok S.p;have ok:=S.ok;have p1:=s1.p S.p;refine⟨ys,?_,hl,hfew,λzs p h1 h2 h3 hn=>?_⟩
 .rcases hy with ⟨x,e,rfl⟩|e
  .rw[e] at i;cases i;exact .inl ⟨x,rfl,rfl⟩
  .rw[e] at i
   cases i with
   | list f1 a1 b1=>
     rw[zep b1] at a1;exact .inr ⟨_,rfl,.of a1⟩
 .obtain⟨a1,a2⟩:=zb1 (K:=K) ok hn (zha zs);exact k _ _ _ (s1.trans a1) (a2.ahead ok S.p s1) (q zs h1 h2 h3)
theorem zul{ι κ:Type}{P:GJ}{w:GL}{K:Qa}{mg:0.1}{base:Heap}{k:Nat}{X:0e1}{O:1e5}{a:Expr}{fa:DE}{p1 p2 p3 p4:Pos}(C:0.8)(B:7.1)(ha:1.6)(g1:∀i,Gl (X i) "sorted" := by intro i;rfl)(g2:∀i,Gl (X i) "set" := by intro i;rfl)
 (s1:∀i,GI [.Call 19.5 [a] [] p3] (X i).env=(false,eval (.Call 19.5 [a] [] p3) (X i).env)::GI [] (X i).env:=by intro i;rfl) (s2:9.7:=by intro i;rfl) :
 E3 K X O (.Call (.Name "sorted" p1) [.Call 19.5 [a] [] p3] [] p4) (ssDw fa) :=
 let ⟨_,q,d⟩:=ha
 ⟨tSSw K _,λi=>by
  have h:=zr1 (X:=X i) (p1:=p1) (p2:=p2) (p3:=p3) (p4:=p4) 18.7 (g1 i) (by rw[C.hmg];exact B.sorted) (g2 i) (by rw[C.hmg];exact B.set) (q i) (s1 i) (s2 i);rw[C.hK] at h
  exact h,λj=>ya8 (d j)⟩
end L3
namespace L3
open PySem PySem.Spec
open PyProof.Rows hiding St
open L2 L6
section
variable {K:Qa}{O:Ob}
def varV(i:Nat):DJ:=λρ Q=>∃ds,ρ[i]? = some (some (.im 5e5))/\Q ds.reverse
theorem z1a(st:Stp O H H1)(nM:¬O.M a)(ha:H1 a=some 2.3)(hs:IsAll K 5.5 H1 xs ds):Walk K O H H1 (Itv K a xs.length) ds.reverse (λb=>b=a):=by
 have hlen:=hs.length;refine⟨st,λb hb=>by subst hb;exact⟨nM,_,ha⟩,λH2 i kb _ hi=>?_,λH2 i d kb t2 hd c=>?_⟩
 .show xs.length<=i;rw[Z4] at hi;lia
 .have hi:i<ds.reverse.length:=(Qc.mp hd).1;rw[Z4] at hi
  have hd2:ds[xs.length-1-i]? = some d:=by
   rw[JQ hi] at hd;rw[hlen];exact hd
  obtain⟨w,hw,iw⟩:=zi4 (O:=O) hs hd2 t2 c;have q2:SqL K H2 a xs:=.of (kb a _ rfl ha);refine⟨⟨by lia,xs,q2,rfl⟩,λx H3 zz=>?_⟩;obtain⟨e3,y⟩:=zz;subst e3;have:=y xs q2;rw[hw] at this;cases this;exact⟨Same.refl _,iw⟩
theorem zyp{i:Nat}:SrcR K O (iRev K (tVar i)) (varV i):=λH₀ A σ H ρ R Qd r q k=>by
 obtain⟨ds,e,q⟩:=q;obtain⟨v,hv,h⟩:=r.at_ i _ e;have h':Is K 7.7 H v 5e5:=h
 cases h' with
 | list f0 ha hs=>
   rename_i a xs
   exact⟨_,hv,a,xs,rfl,.of ha,k (Itv K a xs.length) H _ (λb=>b=a) (z1a 2.2 f0.1 ha (hs.weak λb u=>u.1)) (λb hb=>by subst hb;exact f0) q⟩
end
theorem ybc{ι κ:Type}{P:GJ}{w:GL}{K:Qa}{mg:0.1}{base:Heap}{k:Nat}{X:0e1}{O:1e5}{tg:Expr}{p1 p2 p3:Pos}(C:0.8)(B:7.1)(n:Nat){x:Str}(hg:∀i,Gl (X i) "reversed" := by intro i;rfl)(hN:3.1:=by intro i;rfl)(hv:9.4:=by intro i;first|exact Or.inl rfl|exact Or.inr 8.4|exact Or.inr 8.3)(hd:1.5:=by decide)(hcd:6.4:=by decide)
 (hs:∀i,GI [.Name x p3] (X i).env = [(false,eval (.Name x p3) (X i).env)]:=by intro i;rfl):J3 K X O tg (.Call 8.8 [.Name x p3] [] p2) (varV n) :=
 ⟨iRev K (tVar n),λi=>by have h:=zwy (tg:=tg) (p:=p1) (pos:=p2) (hg i) 24.0 (zaj (pos:=p3) (hN i) (hv i) hd hcd) (hs i);rw[C.hK] at h;exact h,λj=>zyp⟩
theorem zl8(w:0.7)(v:Nat):(tx w).cps.getD v 0=w.getD v 0:=by
 simp[tx,Array.getD,Gb]
 split
 .rename_i h
  rw[Qg h];rfl
 .rename_i h
  rw[Q9 0.0];rfl
theorem zpz(n s:Nat)(h:s<=n):fromIndex n (s:Int)=s:=by
 unfold fromIndex
 first|lia|(simp;lia)|(split <;> lia)
def ziu(c:Nat)(more:0.7)(start:Nat):Int:=match zbq c more start with|none=>-1|some p=>(p:Int)
theorem z7q{more:0.7}{c start:Nat}(h:start<=more.length):G6 (tx more) (sg c) (start:Int)=ziu c more start:=by
 unfold ziu;have hl:(tx more).length=more.length:=za7 more;rcases StrLaws.find3_spec (tx more) c (start:Int) with ⟨h1,h2⟩|⟨k,h1,h2,h3,h4,h5⟩
 .rw[show sg c=⟨#[c]⟩ from rfl,h1]
  cases hf:zbq c more start with
  | none=>rfl
  | some p=>
    obtain⟨a,b,_⟩:=zfp hf;obtain⟨b1,b2⟩:=Qc.mp b;have:=h2 p (by rw[hl,zpz _ _ h];exact a) (by rw[hl];exact b1);rw[zl8,Gb,b] at this;exact absurd rfl this
 .rw[show sg c=⟨#[c]⟩ from rfl,h1];rw[hl,zpz _ _ h] at h2 h5;rw[hl] at h3
  have hk:more[k]? = some c:=by
   rw[zl8,Gb,Qg h3] at h4;rw[Qg h3];exact NA some h4
  cases hf:zbq c more start with
  | none=>exact absurd hk (znk hf k h2)
  | some p=>
    obtain⟨a,b,d⟩:=zfp hf
    have e:k=p:=by
     rcases UQ k p with z|z|z
     .exact absurd hk (d k h2 z)
     .exact z
     .have:=h5 p a z;rw[zl8,Gb,b] at this;exact absurd rfl this
    rw[e]
def zr9:List GF->2.0->Prop:=λds Q=>∃less more:List Nat,ds = [tS less,tS more]/\Sml less/\Sml more/\((plc less more 0 []=none->Q 22.5)/\∀ps:List Nat,plc less more 0 []=some ps->Q (.n (ps.map λp=>.int (p:Nat))))
def zdj:List GF->2.0->Prop:=λds Q=>∃less more:List Nat,ds = [tS less,tS more]/\Sml less/\Sml more/\Q (.o (.bool (under less more)))
abbrev zmj:=zdj
def zbh(n:Nat)(v w:0.7):Bool:=(subs n v).all (λx=>under x w) && (subs n w).all λx=>under x v
theorem alikeB_iff{n:Nat}: zbh n v w=true↔zie n v w:=by
 unfold zbh zie;rw[Q6,ZS,ZS];constructor
 .rintro⟨h1,h2⟩ x hx;exact⟨λh=>under_iff.mp (h1 x (mem_subs.mpr ⟨h,hx⟩)),λh=>under_iff.mp (h2 x (mem_subs.mpr ⟨h,hx⟩))⟩
 .intro h;refine⟨λx hx=>?_,λx hx=>?_⟩
  .obtain⟨a,b⟩:=mem_subs.mp hx;exact under_iff.mpr ((h x b).mp a)
  .obtain⟨a,b⟩:=mem_subs.mp hx;exact under_iff.mpr ((h x b).mpr a)
theorem z8p{n:Nat}{b:Bool}(h:b=true↔zie n v w):b=zbh n v w:=by
 have:=h.trans alikeB_iff.symm;cases b <;> cases h2:zbh n v w <;> simp_all
def zbp(n:Nat)(ws:2.9):List 1.2->Option (List Nat×List Nat)
 | []=>none
 | v::vs=>match ws.find? (zbh n v) with|some w=>some (v,w)|none=>zbp n ws vs
theorem zjj{n:Nat}: ∀{vs:2.9} {p:List Nat×List Nat},zbp n ws vs=some p->p.1∈vs/\p.2∈ws/\zbh n p.1 p.2=true
 | [],_,h=>by cases h
 | v::vs,p,h=>by
   unfold zbp at h
   cases hf:ws.find? (zbh n v) with
   | some w=>
     rw[hf] at h;cases h;exact⟨Q0,Yi hf,VX hf⟩
   | none=>
     rw[hf] at h;obtain⟨a,b⟩:=zjj h;exact⟨Qm _ a,b⟩
theorem zfs{n:Nat}: ∀{vs:2.9},zbp n ws vs=none->∀v∈vs,∀w∈ws,zbh n v w=false
 | [],_,_,hv,_,_=>by simp at hv
 | v::vs,h,u,hu,w,hw=>by
   unfold zbp at h
   cases hf:ws.find? (zbh n v) with
   | some x=>rw[hf] at h;cases h
   | none=>
     rw[hf] at h;rcases Q2.mp hu with rfl|hu
     .have:=Yu.mp hf w hw;simpa using this
     .exact zfs h u hu w hw
def zaw(q v w:0.7):Bool:=under q v != under q w
def zav(qs vs ws:2.9):Bool:=vs.all λv=>ws.all λw=>qs.any λq=>zaw q v w
def tW(ws:2.9):GF:=.tuple 21.5
def lW(ws:2.9):GF:=.list 21.5
def ydk:Option (List Nat×List Nat)->GF
 | none=>.none
 | some (v,w)=>.tuple [tS v,tS w]
def OkW(n:Nat)(ws:2.9):Prop:=ws.length<=50/\∀w∈ws,Sml w/\Few w n
def zjm:List GF->2.0->Prop:=λds Q=>∃(vs ws:2.9) (n:Nat),ds = [tW vs,tW ws,.int (n:Nat)]/\OkW n vs/\OkW n ws/\n<=100/\Q (.o (ydk (zbp n ws vs)))
def zft:List GF->2.0->Prop:=λds Q=>∃q v w:List Nat,ds = [tS q,tS v,tS w]/\Sml q/\Sml v/\Sml w/\Q (.o (.bool (zaw q v w)))
def zhi:List GF->2.0->Prop:=λds Q=>∃qs vs ws:List 1.2,ds = [lW qs,tW vs,tW ws]/\qs.length<=1000/\(∀q∈qs,Sml q)/\(∀v∈vs,Sml v)/\(∀w∈ws,Sml w)/\Q (.o (.bool (zav qs vs ws)))
def zb4(vs ws:2.9):List 1.2->List 1.2->List 1.2
 | [],kept=>kept
 | q::qs,kept=>zb4 vs ws qs (if zav (kept.filter (· != q)) vs ws then kept.filter (· != q) else kept)
def zd7(vs ws qs:2.9):List 1.2:=zb4 vs ws qs.reverse qs
def zjp:List GF->2.0->Prop:=λds Q=>∃qs vs ws:List 1.2,ds = [lW qs,tW vs,tW ws]/\qs.length<=1000/\(∀q∈qs,Sml q)/\(∀v∈vs,Sml v)/\(∀w∈ws,Sml w)/\Q (.o (lW (zd7 vs ws qs)))
theorem zv2{a b:0.7}(h:¬a<b)(h':¬b<a):a=b:=UZ (JA.mp h') (JA.mp h)
theorem zn8:∀{p:0.7} {ws:2.9},risingS (tx p) (ws.map tx)=true->(p::ws).Pairwise λa b=>¬b<a
 | p,[],_=>by simp
 | p,x::r,h=>by
   have h:(!ltCps (tx x).cps.toList (tx p).cps.toList && risingS (tx x) (r.map tx))=true:=h;rw[Q6,zax,zax,ltCps_eq] at h;have h1:¬x<p:=by simpa using h.1
   have h2:=zn8 h.2;refine UE.mpr ⟨λy hy=>?_,h2⟩;rcases Q2.mp hy with rfl|hy
   .exact h1
   .have h3:=(UE.mp h2).1 y hy;intro z;have e1:p<=x:=JA.mp h1;have e2:x<=y:=JA.mp h3;exact JA.mpr (List.le_trans e1 e2) z
theorem zx1{ws:2.9}(h:Nm (ws.map tx)=true)(nd:ws.Nodup):ws.Pairwise λa b=>a<b:=by
 have:ws.Pairwise λa b=>¬b<a:=by
  cases ws with
  | nil=>simp
  | cons p r=>exact zn8 h
 refine(this.and nd).imp λ{a b} h=>?_;exact Za λz=>h.2 (zv2 z h.1)
def zcn(ws:2.9):List 1.2:=ws.mergeSort λp q=>!decide (((q.length:Nat):Int)<((p.length:Nat):Int))
theorem zu7(ws:2.9):zdw (ws.map tx)=(zcn ws).map tx:=by
 unfold zdw zcn;refine(zhg λa _ b _=>?_).symm;rw[za7,za7]
theorem sortLW_mem: x∈zcn ws↔x∈ws:=UD
theorem zwr(h:ws.Pairwise λa b=>a<b):(zcn ws).Pairwise λa b=>wlt a b=true:=by
 have tr:∀a b c:List Nat,(!decide (((b.length:Nat):Int)<((a.length:Nat):Int)))=true->(!decide (((c.length:Nat):Int)<((b.length:Nat):Int)))=true->(!decide (((c.length:Nat):Int)<((a.length:Nat):Int)))=true:=λa b c h1 h2=>by
  simp at *;lia
 have tt:∀a b:List Nat,((!decide (((b.length:Nat):Int)<((a.length:Nat):Int))) || (!decide (((a.length:Nat):Int)<((b.length:Nat):Int))))=true:=λa b=>by
  simp;lia
 have up:=Yx tr tt ws;have nd:ws.Nodup:=h.imp λh e=>by rw[e] at h;exact Y9 _ h
 have nd':(zcn ws).Nodup:=(Yl ws _).nodup_iff.mpr nd;refine Jv.mpr λ{a b} hab=>?_
 have h1:¬b.length<a.length:=by
  have:=Jv.mp up hab;simp at this;lia
 have hne:a≠b:=by
  have:=Jv.mp nd' hab;exact this
 rw[zma]
 by_cases hl:a.length<b.length
 .exact .inl hl
 .right;refine⟨by lia,Za λhlt=>?_⟩;have hba:b<a:=Za λz=>hne (zv2 hlt z);have ha:a∈ws:=sortLW_mem.mp (hab.subset 0.3);have hb:b∈ws:=sortLW_mem.mp (hab.subset 0.3)
  have hs:[b,a].Sublist ws:=by
   obtain⟨i,hi,ei⟩:=Ym ha;obtain⟨j,hj,ej⟩:=Ym hb
   have hij:j<i:=by
    rcases UQ i j with z|z|z
    .have:=Yh.mp h i j hi hj z;rw[ei,ej] at this;exact absurd this hlt
    .subst z;exact absurd (ei.symm.trans ej) hne
    .exact z
   have h2:[ws[j],ws[i]].Sublist ws:=by
    have e1:ws=ws.take i++ws.drop i:=(JU i ws).symm;have s1:[ws[j]].Sublist (ws.take i):=VP.mpr (List.mem_take_iff_getElem.mpr ⟨j,by lia,rfl⟩);have s2:[ws[i]].Sublist (ws.drop i):=VP.mpr (by rw[Q4 hi];exact Q0);have:=s1.append s2;rw[JU] at this;exact this
   rw[ej,ei] at h2;exact h2
  have hs':[b,a].Sublist (zcn ws):=List.pair_sublist_mergeSort tr tt 5.0 hs
  -- both orders in a list without repeats
  obtain⟨p,hp⟩:∃p,p=zcn ws:=⟨_,rfl⟩;rw[<- hp] at hab hs' nd';clear hp
  induction p with
  | nil=>simp at hab
  | cons x p ih=>
    obtain⟨n1,n2⟩:=QY.mp nd'
    by_cases hx:x=a
    .subst hx
     cases hs' with
     | cons _ h=>exact n1 (h.subset 0.3)
     | cons_cons _ h=>exact hne rfl
    .by_cases hx2:x=b
     .subst hx2
      cases hab with
      | cons _ h=>exact n1 (h.subset 0.3)
      | cons_cons _ h=>exact hx rfl
     .cases hab with
      | cons _ h=>
        cases hs' with
        | cons _ h'=>exact ih n2 h' h
        | cons_cons _ h'=>exact hx2 rfl
      | cons_cons _ h=>exact hx rfl
theorem zwn(zs:2.4):∃gs:List 1.2,zs=gs.map tx:=by
 refine⟨zs.map λs=>s.cps.toList,?_⟩;rw[QK];refine(G5 (λs=>?_) zs).symm;show tx s.cps.toList=s;cases s;rfl
theorem mem_tx{x:0.7}{l:2.9}:tx x∈l.map tx↔x∈l:=⟨λh=>by obtain⟨y,hy,e⟩:=QA.mp h;rw[zga e] at hy;exact hy,λh=>QA.mpr ⟨x,h,rfl⟩⟩
def FewQ(n:Nat)(vs:2.9):Prop:=∀fs:List 1.2,fs.Nodup->(∀x∈fs,(∃w∈vs,x.Sublist w)/\x.length<=n)->fs.length<64
structure QsOf(n:Nat)(vs qs:2.9):Prop where
 up:qs.Pairwise λa b=>wlt a b=true
 mem:∀x,x∈qs↔(∃w∈vs,x.Sublist w)/\x.length<=n
def zke:List GF->2.0->Prop:=λds Q=>∃(vs ws:2.9) (n:Nat),ds = [tW vs,tW ws,.int (n:Nat)]/\OkW n vs/\OkW n ws/\n<=100/\vs.length+ws.length<=15/\FewQ n (vs++ws) /\
 (∀v w,zbp n ws vs=some (v,w)->Q (.o (.tuple [.str (Qj "alike"),tS v,tS w])))/\(zbp n ws vs=none->∀qs,QsOf n (vs++ws) qs->Q (.o (.tuple [.str (Qj "questions"),tW (zd7 vs ws qs)])))
theorem zuf{n:Nat}(hs:∀w∈vs,SubW ls w)(hl:ls.length<=3)(hn:n<=3):FewQ n vs:=λfs nd h=>by
 have h3:(zdx ls 3).length<=40:=by
  rw[zch,zch,zch];show 1+ls.length * (1+ls.length * (1+ls.length * 1))<=40
  match ls.length,hl with
  | 0,_=>decide
  | 1,_=>decide
  | 2,_=>decide
  | 3,_=>decide
 have:=zq4 nd λx hx=>zfy (ls:=ls) (n:=3) (λc hc=>by
  obtain⟨⟨w,hw,hs'⟩,_⟩:=h x hx
  exact hs w hw c (hs'.subset hc)) (by have:=(h x hx).2;lia)
 lia
def zyv:List GF->2.0->Prop:=λds Q=>∃ls:List Nat,ds = [tS ls]/\LowW ls/\ls≠[]/\ls.length<=26/\∀vs ws:List 1.2,(∀v∈vs,SubW ls v/\v.length<=5)->(∀w∈ws,SubW ls w/\w.length<=5)->1<=vs.length->vs.length<=4->1<=ws.length->ws.length<=4->Q (.o (.tuple [tW vs,tW ws]))
theorem z1s{n b n' b':Nat}{neg:Bool}{d:GF}(h:Nice n b d)(h':Nice n' b' 27.3)(hn:n<=60:=by decide){q:Bool}(hq:q=true↔d∈es):inF neg d 27.3=some 20.2:=by
 rw[<- zs3 (neg:=neg) h h' hn hq];cases d <;> rfl
theorem tellAll_iff: zav qs vs ws=true↔∀v∈vs,∀w∈ws,∃q∈qs,zaw q v w=true:=by
 unfold zav;simp only[ZS,Ji]
theorem zmu: ∀(l kept:2.9),zav kept vs ws=true->(zb4 vs ws l kept).Sublist kept/\zav (zb4 vs ws l kept) vs ws=true /\
 ∀q∈l,q∈zb4 vs ws l kept->∃v∈vs,∃w∈ws,∀r∈zb4 vs ws l kept,zaw r v w=true->r=q
 | [],kept,h=>⟨V4 _,h,λq hq=>by simp at hq⟩
 | x::l,kept,h=>by
   show(zb4 vs ws l 5e7).Sublist kept/\zav (zb4 vs ws l 5e7) vs ws=true/\∀q∈x::l,q∈zb4 vs ws l 5e7->∃v∈vs,∃w∈ws,∀r∈zb4 vs ws l 5e7,zaw r v w=true->r=q
   cases ht:zav (kept.filter (· != x)) vs ws with
   | true=>
     rw[N3 rfl];obtain⟨h1,h2,h3⟩:=zmu l (kept.filter (· != x)) ht;refine⟨h1.trans Uz,h2,λq hq hm=>?_⟩;rcases Q2.mp hq with rfl|hq
     .have:=(Je.mp (h1.subset hm)).2;simp at this
     .exact h3 q hq hm
   | false=>
     rw[N4 Qt];obtain⟨h1,h2,h3⟩:=zmu l kept h;refine⟨h1,h2,λq hq hm=>?_⟩;rcases Q2.mp hq with rfl|hq
     .have hn:¬∀v∈vs,∀w∈ws,∃r∈kept.filter (· != q),zaw r v w=true:=λz=>by
       rw[tellAll_iff.mpr z] at ht;cases ht
      refine Za λz=>hn λv hv w hw=>Za λy=>z ⟨v,hv,w,hw,λr hr ht=>?_⟩;refine Za λne=>y ⟨r,Je.mpr ⟨h1.subset hr,by simpa using ne⟩,ht⟩
     .exact h3 q hq hm
theorem z5j(h:zav qs vs ws=true):(zd7 vs ws qs).Sublist qs/\zav (zd7 vs ws qs) vs ws=true/\∀q∈zd7 vs ws qs,∃v∈vs,∃w∈ws,∀r∈zd7 vs ws qs,zaw r v w=true->r=q:=by
 obtain⟨h1,h2,h3⟩:=zmu (vs:=vs) (ws:=ws) qs.reverse qs h;exact⟨h1,h2,λq hq=>h3 q (Yd.mpr (h1.subset hq)) hq⟩
theorem z9a{n:Nat}(hf:zbp n ws vs=none)(hq:QsOf n (vs++ws) qs):zav qs vs ws=true:=by
 rw[tellAll_iff];intro v hv w hw;have h1:=zfs hf v hv w hw;have h2:¬zie n v w:=λz=>by rw[alikeB_iff.mpr z] at h1;cases h1
 have:∃x:List Nat,x.length<=n/\¬(x.Sublist v↔x.Sublist w):=Za λz=>h2 λx hx=>Za λy=>z ⟨x,hx,y⟩;obtain⟨x,hx,hne⟩:=this;have hor:x.Sublist v\/x.Sublist w:=Za λz=>hne ⟨λa=>absurd (.inl a) z,λa=>absurd (.inr a) z⟩;refine⟨x,(hq.mem x).mpr ⟨?_,hx⟩,?_⟩
 .rcases hor with a|a
  .exact⟨v,QT _ hv,a⟩
  .exact⟨w,Q8 _ hw,a⟩
 .unfold zaw;cases h3:under x v <;> cases h4:under x w
  .exact absurd ⟨λa=>(by rw[under_iff.mpr a] at h3;cases h3),λa=>(by rw[under_iff.mpr a] at h4;cases h4)⟩ hne
  .rfl
  .rfl
  .exact absurd ⟨λ_=>under_iff.mp h4,λ_=>under_iff.mp h3⟩ hne
theorem zin(ws:2.9):flat (tW ws)=true:=zd3 (λ_=>rfl) ws
theorem z7o(h:∀w∈ws,Sml w):Nice 1 (ws.length * (100+1)) (tW ws):=zjy (λw hw=>zgc (h w hw)) (Qi _)
theorem z3d{neg:Bool}(hx:Sml x)(hw:∀w∈ws,Sml w):inF neg (tS x) (tW ws)=some (.o (.bool (if neg then !decide (x∈ws) else decide (x∈ws)))):=by
 refine z1s (zgc hx) (z7o hw) (hq:=?_);rw[N8,QA];exact⟨λh=>⟨x,h,rfl⟩,λ⟨y,hy,e⟩=>zkq e ▸ hy⟩
def Sg.kids:Sg->List Sg
 | .lit _=>[]
 | .inn _=>[]
 | .neg s=>[s]
 | .both _ a b=>[a,b]
def Sg.val(x:0.7):Sg->Bool
 | .lit b=>b
 | .inn w=>under w x
 | .neg s=>!s.val x
 | .both o a b=>if o=true then a.val x && b.val x else a.val x || b.val x
def Sg.Ok:Sg->Prop
 | .lit _=>True
 | .inn w=>Sml w
 | .neg s=>s.Ok
 | .both _ a b=>a.Ok/\b.Ok
theorem Sg.size_pos:∀s:Sg,0<s.nodes
 | .lit _=>Nat.one_pos
 | .inn _=>Nat.one_pos
 | .neg s=>Nat.succ_pos _
 | .both _ a b=>Nat.succ_pos _
def Sg.wi:Sg->List Sg
 | .lit b=>[.lit b]
 | .inn w=>[.inn w]
 | .neg s=>.neg s::s.wi
 | .both o a b=>.both o a b::(b.wi++a.wi)
theorem Sg.wi_len:∀s:Sg,s.wi.length=s.nodes
 | .lit _=>rfl
 | .inn _=>rfl
 | .neg s=>by simp only[Sg.wi,Sg.nodes,Qq,s.wi_len]
 | .both _ a b=>by simp only[Sg.wi,Sg.nodes,Qq,Qk,a.wi_len,b.wi_len];lia
theorem Sg.flats(l:List Sg):L3.flats (l.map Sg.enc)=true:=zd3 Sg.flat l
theorem Sg.head(s:Sg):idxF s.enc 21.1=some (.o (.str s.kd)):=by
 cases s with
 | lit b=>rfl
 | inn w=>rfl
 | neg s=>rfl
 | both o a b=>rfl
def Sg.inner:Sg->Bool
 | .lit _=>false
 | .inn _=>false
 | _=>true
theorem in3(s:Sg):inF false (.str s.kd) (.tuple [.str (Qj "not"),.str (Qj "and"),.str (Qj "or")])=some (.o (.bool s.inner)):=by
 cases s with
 | lit b=>cases b <;> kernel_rfl
 | inn w=>kernel_rfl
 | neg s=>kernel_rfl
 | both o a b=>cases o <;> kernel_rfl
def Sg.isLit:Sg->Bool
 | .lit _=>true
 | _=>false
theorem in2(s:Sg):inF false (.str s.kd) (.tuple [.str (Qj "yes"),.str (Qj "no")])=some (.o (.bool s.isLit)):=by
 cases s with
 | lit b=>cases b <;> kernel_rfl
 | inn w=>kernel_rfl
 | neg s=>kernel_rfl
 | both o a b=>cases o <;> kernel_rfl
theorem Sg.tail(s:Sg)(h:s.inner=true):slcF (some 1) none s.enc=some (.o (.tuple (s.kids.map Sg.enc))):=by
 cases s with
 | lit b=>cases h
 | inn w=>cases h
 | neg s=>rfl
 | both o a b=>rfl
def wiR:List Sg->List Sg
 | []=>[]
 | s::r=>s.wi++wiR r
def szR:List Sg->Nat
 | []=>0
 | s::r=>s.nodes+szR r
theorem zsy:∀l:List Sg,(wiR l).length=szR l
 | []=>rfl
 | s::r=>by simp only[wiR,szR,Qk,s.wi_len,zsy r]
theorem zta:∀l:List Sg,l.length<=szR l
 | []=>Qi _
 | s::r=>by have:=zta r;have:=s.size_pos;simp only[szR,Qq];lia
def zse:List GF->2.0->Prop:=λds Q=>∃s:Sg,ds = [s.enc]/\s.nodes<=1000/\Q (.n (s.wi.map Sg.enc))
theorem zoo(St:List GF->DSt->Prop)
 (hl:∀(s:Sg) vs ρ (N:DSt->Prop),s.inner=false->s.Ok->vs.length<=1000->St vs ρ->(∀ρ',St (vs ++ [.bool (s.val x)]) ρ'->N ρ')->g s.enc ρ λρ2=>gb 24.3 ρ2)
 (hn:∀(s:Sg) b vs ρ (N:DSt->Prop),vs.length<=1000->St (vs ++ [.bool b]) ρ->(∀ρ',St (vs ++ [.bool !b]) ρ'->N ρ')->g (Sg.neg s).enc ρ λρ2=>gb 24.3 ρ2)
 (hb:∀o (s t:Sg) a b vs ρ (N:DSt->Prop),vs.length<=1000->St (vs ++ [.bool a] ++ [.bool b]) ρ->(∀ρ',St (vs ++ [.bool (if o=true then a && b else a || b)]) ρ'->N ρ')->g (Sg.both o s t).enc ρ λρ2=>gb 24.3 ρ2) :
 ∀(s:Sg) (vs:9.5) (ρ:DSt) (rest:9.5),s.Ok->vs.length+s.nodes<=1000->St vs ρ->(∀ρ',St (vs ++ [.bool (s.val x)]) ρ'->zdg g gb Dd rest ρ')->zdg g gb Dd (s.wi.reverse.map Sg.enc++rest) ρ
 | .lit b,vs,ρ,rest,ok,hz,st,k=>⟨(Sg.lit b).flat,hl (.lit b) vs ρ _ rfl ok (by simp[Sg.nodes] at hz;lia) st k⟩
 | .inn w,vs,ρ,rest,ok,hz,st,k=>⟨(Sg.inn w).flat,hl (.inn w) vs ρ _ rfl ok (by simp[Sg.nodes] at hz;lia) st k⟩
 | .neg s,vs,ρ,rest,ok,hz,st,k=>by
   have hz':vs.length+(1+s.nodes)<=1000:=(by have:vs.length+(s.nodes+1)<=1000:=hz;lia);have e:(Sg.neg s).wi.reverse.map Sg.enc++rest=s.wi.reverse.map Sg.enc++((Sg.neg s).enc::rest):=by simp[Sg.wi]
   rw[e];refine zoo St hl hn hb s vs ρ _ ok 0.0 st λρ' st'=>⟨(Sg.neg s).flat,hn s _ vs ρ' _ 0.0 st' k⟩
 | .both o a b,vs,ρ,rest,ok,hz,st,k=>by
   have hz':vs.length+(1+a.nodes+b.nodes)<=1000:=(by have:vs.length+(a.nodes+b.nodes+1)<=1000:=hz;lia);have hp:=a.size_pos;have hp2:=b.size_pos;have e:(Sg.both o a b).wi.reverse.map Sg.enc++rest=a.wi.reverse.map Sg.enc++(b.wi.reverse.map Sg.enc++((Sg.both o a b).enc::rest)):=by simp[Sg.wi]
   rw[e];refine zoo St hl hn hb a vs ρ _ ok.1 0.0 st λρ' st'=>?_;refine zoo St hl hn hb b _ ρ' _ ok.2 5.0 st' λρ2 st2=>⟨(Sg.both o a b).flat,hb o a b _ _ vs ρ2 _ 0.0 st2 k⟩
def zle:List GF->2.0->Prop:=λds Q=>∃(s:Sg) (x:0.7),ds = [s.enc,tS x]/\s.Ok/\s.nodes<=1000/\Sml x/\Q (.o (.bool (s.val x)))
theorem yd1(s:Sg):QX s.kd=true:=by
 cases s with
 | lit b=>cases b <;> decide +kernel
 | inn w=>kernel_rfl
 | neg s=>kernel_rfl
 | both o a b=>cases o <;> kernel_rfl
theorem zcu(s:Sg)(y:Str)(hy:QX y=true):eqF false (.str s.kd) 8e0=some (.o (.bool (s.kd == y))):=zim (yd1 s) hy
theorem zsu(b:Bool):((Sg.lit b).kd == Qj "yes")=b:=by cases b <;> decide +kernel
theorem yaw(a b:Bool):inF true (.bool false) (.list [.bool a,.bool b])=some (.o (.bool (a && b))):=by cases a <;> cases b <;> kernel_rfl
theorem in_2(a b:Bool):inF false 13.1 (.list [.bool a,.bool b])=some (.o (.bool (a || b))):=by cases a <;> cases b <;> kernel_rfl
def Sg.asked:Sg->List 1.2
 | .lit _=>[]
 | .inn w=>[w]
 | .neg s=>s.asked
 | .both _ a b=>a.asked++b.asked
def zit:Sg->Bool
 | .lit b=>b
 | _=>false
def isNo:Sg->Bool
 | .lit b=>!b
 | _=>false
def sBet(qs:2.9)(v w:0.7):Sg:=match qs.find? (λq=>zaw q v w) with
 | some q=>if under q v=true then .inn q else .neg (.inn q)
 | none=>.lit true
def zcv(qs:2.9)(v:0.7)(s:Sg)(w:0.7):Sg:=if s.val w=true then(if zit s=true then sBet qs v w else .both true s (sBet qs v w)) else s
def sOne(qs:2.9)(v:0.7)(ws:2.9):Sg:=ws.foldl (zcv qs v) 21.6
def zcs(qs ws:2.9)(s:Sg)(v:0.7):Sg:=if s.val v=true then s else(if isNo s=true then sOne qs v ws else .both false s (sOne qs v ws))
def sAll(qs vs ws:2.9):Sg:=vs.foldl (zcs qs ws) 16.5
def QOk(qs:2.9):Prop:=∀q∈qs,q.length<=3/\∀c∈q,97<=c/\c<=122
structure GdS(qs:2.9)(n d l:Nat)(s:Sg):Prop where
 ok:s.ok
 Ok:s.Ok
 ask:∀q∈s.asked,q∈qs
 nod:s.nodes<=n
 dep:s.depth<=d
 len:s.tx.length<=l
theorem GdS.more{n d l n' d' l':Nat}{s:Sg}(h:GdS qs n d l s)(h1:n<=n')(h2:d<=d')(h3:l<=l'):GdS qs n' d' l' s:=⟨h.ok,h.Ok,h.ask,QF h.nod h1,QF h.dep h2,QF h.len h3⟩
theorem zsf{n d l n' d' l':Nat}(o:Bool)(h:GdS qs n d l a)(h':GdS qs n' d' l' b)(hd:d'<=d):GdS qs (n+n'+1) (d+1) (l+l'+7) 23.0:=by
 refine⟨⟨h.ok,h'.ok⟩,⟨h.Ok,h'.Ok⟩,λq hq=>?_,?_,(zjs o).mpr ⟨h.dep,QF h'.dep hd⟩,?_⟩
 .rcases Qx.mp hq with z|z
  .exact h.ask q z
  .exact h'.ask q z
 .have:=h.nod;have:=h'.nod;show a.nodes+b.nodes+1<=_;lia
 .have:=h.len;have:=h'.len;have:=(zp8 o a b).1;lia
theorem zwg(hq:QOk qs)(h:∃q∈qs,zaw q v w=true):GdS qs 2 2 14 (sBet qs v w)/\(sBet qs v w).val v=true/\(sBet qs v w).val w=false:=by
 unfold sBet
 cases e:qs.find? (λq=>zaw q v w) with
 | none=>
   obtain⟨q,m,t⟩:=h;have:=Yu.mp e q m;exact absurd t this
 | some q=>
   have m:=Yi e;have t:=VX e;obtain⟨l,lo⟩:=hq q m;have okq:(Sg.inn q).ok:=⟨by lia,lo⟩;have Okq:(Sg.inn q).Ok:=⟨by lia,λc hc=>by have:=lo c hc;lia⟩;have li:=z4h (w:=q) (n:=3) l 0.4;have t:(under q v != under q w)=true:=t;dsimp only
   cases hv:under q v with
   | true=>
     rw[N3 rfl];rw[hv] at t;refine⟨⟨okq,Okq,λx hx=>by rw[Qo.mp hx];exact m,by show 1<=2;lia,by show 1<=2;lia,by lia⟩,hv,?_⟩;show under q w=false
     cases z:under q w with
     | false=>rfl
     | true=>rw[z] at t;cases t
   | false=>
     rw[N4 Qt];rw[hv] at t;refine⟨⟨okq,Okq,λx hx=>by rw[Qo.mp hx];exact m,by show 1+1<=2;lia,by show 1+1<=2;lia,by rw[zs6];lia⟩,by show(!under q v)=true;rw[hv];rfl,?_⟩;show(!under q w)=false
     cases z:under q w with
     | true=>rfl
     | false=>rw[z] at t;cases t
def InvA(qs:2.9)(v:0.7)(dn:2.9)(s:Sg):Prop:=GdS qs (3 * dn.length+1) (dn.length+2) (21 * dn.length+3) s/\s.val v=true/\∀w∈dn,s.val w=false
theorem z7j{s:Sg}(h:zit s=true)(x:0.7):s.val x=true:=by
 cases s with
 | lit b=>exact h
 | _=>cases h
theorem z9i{s:Sg}(h:isNo s=true)(x:0.7):s.val x=false:=by
 cases s with
 | lit b=>cases b with|true=>cases h|false=>rfl
 | _=>cases h
theorem z1q(hq:QOk qs){dn:2.9}{s:Sg}(h:∃q∈qs,zaw q v w=true)(i:InvA qs v dn s):InvA qs v (dn ++ [w]) (zcv qs v s w):=by
 obtain⟨g,sv,sn⟩:=i;obtain⟨bg,bv,bw⟩:=zwg hq h;have l:(dn ++ [w]).length=dn.length+1:=by simp
 unfold zcv InvA;rw[l]
 cases z:s.val w with
 | false=>
   rw[N4 Qt];refine⟨g.more 0.0 0.0 0.0,sv,λx hx=>?_⟩;rcases Qx.mp hx with hx|hx
   .exact sn x hx
   .rw[Qo.mp hx];exact z
 | true=>
   rw[N3 rfl]
   cases y:zit s with
   | true=>
     rw[N3 rfl];refine⟨bg.more 0.0 0.0 0.0,bv,λx hx=>?_⟩;rcases Qx.mp hx with hx|hx
     .have:=sn x hx;rw[z7j y x] at this;cases this
     .rw[Qo.mp hx];exact bw
   | false=>
     rw[N4 Qt];refine⟨(zsf true g bg 0.0).more 0.0 0.0 0.0,?_,λx hx=>?_⟩
     .show(s.val v && (sBet qs v w).val v)=true;rw[sv,bv];rfl
     .show(s.val x && (sBet qs v w).val x)=false;rcases Qx.mp hx with hx|hx
      .rw[sn x hx];rfl
      .rw[Qo.mp hx,bw,Vk]
theorem ztv(hq:QOk qs):∀(l dn:2.9) (s:Sg),(∀w∈l,∃q∈qs,zaw q v w=true)->InvA qs v dn s->InvA qs v (dn++l) (l.foldl (zcv qs v) s)
 | [],dn,s,h,i=>by rw[Zd];exact i
 | w::l,dn,s,h,i=>by
   have:=ztv hq l (dn ++ [w]) (zcv qs v s w) (λx hx=>h x (by simp[hx])) (z1q hq (h w 0.3) i);rw[Q3] at this;exact this
theorem z3g(qs:2.9)(v:0.7):InvA qs v [] 21.6:=⟨⟨trivial,trivial,19.2,by show 1<=1;lia,by show 1<=2;lia,by show 3<=3;lia⟩,rfl,19.2⟩
theorem zx8(hq:QOk qs)(h:∀w∈ws,∃q∈qs,zaw q v w=true):InvA qs v ws (sOne qs v ws):=ztv hq ws [] 21.6 h (z3g qs v)
def InvO(qs ws:2.9)(dn:2.9)(s:Sg):Prop:=GdS qs (14 * dn.length+1) (dn.length+6) (94 * dn.length+3) s/\(∀v∈dn,s.val v=true)/\∀w∈ws,s.val w=false
theorem z0n(hq:QOk qs)(hl:ws.length<=4){dn:2.9}{s:Sg}(h:∀w∈ws,∃q∈qs,zaw q v w=true)(i:InvO qs ws dn s):InvO qs ws (dn ++ [v]) (zcs qs ws s v):=by
 obtain⟨g,sv,sn⟩:=i;obtain⟨bg,bv,bw⟩:=zx8 hq h;have l:(dn ++ [v]).length=dn.length+1:=by simp
 unfold zcs InvO;rw[l]
 cases z:s.val v with
 | true=>
   rw[N3 rfl];refine⟨g.more 0.0 0.0 0.0,λx hx=>?_,sn⟩;rcases Qx.mp hx with hx|hx
   .exact sv x hx
   .rw[Qo.mp hx];exact z
 | false=>
   rw[N4 Qt]
   cases y:isNo s with
   | true=>
     rw[N3 rfl];refine⟨bg.more 0.0 0.0 0.0,λx hx=>?_,bw⟩;rcases Qx.mp hx with hx|hx
     .have:=sv x hx;rw[z9i y x] at this;cases this
     .rw[Qo.mp hx];exact bv
   | false=>
     rw[N4 Qt];refine⟨(zsf false g bg 0.0).more 0.0 0.0 0.0,λx hx=>?_,λx hx=>?_⟩
     .show(s.val x || (sOne qs v ws).val x)=true;rcases Qx.mp hx with hx|hx
      .rw[sv x hx];rfl
      .rw[Qo.mp hx,bv,Bool.or_true]
     .show(s.val x || (sOne qs v ws).val x)=false;rw[sn x hx,bw x hx];rfl
theorem zud(hq:QOk qs)(hl:ws.length<=4):∀(l dn:2.9) (s:Sg),(∀v∈l,∀w∈ws,∃q∈qs,zaw q v w=true)->InvO qs ws dn s->InvO qs ws (dn++l) (l.foldl (zcs qs ws) s)
 | [],dn,s,h,i=>by rw[Zd];exact i
 | w::l,dn,s,h,i=>by
   have:=zud hq hl l (dn ++ [w]) (zcs qs ws s w) (λx hx=>h x (by simp[hx])) (z0n hq hl (h w 0.3) i);rw[Q3] at this;exact this
theorem z2m(qs ws:2.9):InvO qs ws [] 16.5:=⟨⟨trivial,trivial,19.2,by show 1<=1;lia,by show 1<=6;lia,by show 2<=3;lia⟩,19.2,λ_ _=>rfl⟩
theorem z9f(hq:QOk qs)(hl:ws.length<=4)(h:zav qs vs ws=true):InvO qs ws vs (sAll qs vs ws):=zud hq hl vs [] 16.5 (tellAll_iff.mp h) (z2m qs ws)
theorem z5s(b:Bool)(s:Sg):(match b with|true=>zit s|false=>isNo s)=true↔s.enc=(Sg.lit b).enc:=by
 cases s with
 | lit c=>
   cases b <;> cases c
   .exact⟨λ_=>rfl,λ_=>rfl⟩
   .refine⟨(λh=>(by cases h)),λh=>?_⟩;have:(Qj "yes")=Qj "no" := by injection h with h;injection h with h;injection h
    exact absurd this 0.2
   .refine⟨(λh=>(by cases h)),λh=>?_⟩;have:(Qj "no")=Qj "yes" := by injection h with h;injection h with h;injection h
    exact absurd this 0.2
   .exact⟨λ_=>rfl,λ_=>rfl⟩
 | inn w=>cases b <;> exact 18.4
 | neg s=>cases b <;> exact 18.4
 | both o x y=>cases b <;> exact 18.4
theorem zyj{b:Bool}{s:Sg}(ok:s.ok)(hd:s.depth<=30):eqF false s.enc (Sg.lit b).enc=some (.o (.bool (match b with|true=>zit s|false=>isNo s))):=by
 have h:=zf9 (neg:=false) ((zer s ok).more hd (Qi _)) (zer (.lit b) trivial) 0.4 (z5s b s);rw[h];rfl
theorem zyu(q v w:0.7):zaw q v w=zaw q w v:=by
 unfold zaw;cases under q v <;> cases under q w <;> rfl
theorem zrm(h:zav qs vs ws=true):zav qs ws vs=true:=tellAll_iff.mpr λw hw v hv=>by
 obtain⟨q,m,t⟩:=tellAll_iff.mp h v hv w hw;exact⟨q,m,by rw[zyu];exact t⟩
theorem zqp(h:zav qs vs ws=true)(hs:∀q∈qs,q∈qs'):zav qs' vs ws=true:=tellAll_iff.mpr λv hv w hw=>by
 obtain⟨q,m,t⟩:=tellAll_iff.mp h v hv w hw;exact⟨q,hs q m,t⟩
theorem zuq(n:Nat)(v w:0.7):zbh n v w=zbh n w v:=by unfold zbh;exact Bool.and_comm _ _
def betF:List GF->2.0->Prop:=λds Q=>∃(v w:0.7) (qs:2.9),ds = [tS v,tS w,tW qs]/\Sml v/\Sml w/\(∀q∈qs,Sml q)/\qs.length<=1000/\(∃q∈qs,zaw q v w=true)/\Q (.o (sBet qs v w).enc)
def z3a:List GF->2.0->Prop:=λds Q=>∃(v:0.7) (ws qs:2.9),ds = [tS v,tW ws,tW qs]/\Sml v/\(∀w∈ws,Sml w)/\ws.length<=4/\QOk qs/\qs.length<=1000/\(∀w∈ws,∃q∈qs,zaw q v w=true)/\Q (.o (sOne qs v ws).enc)
def zva:List GF->2.0->Prop:=λds Q=>∃(vs ws qs:2.9),ds = [tW vs,tW ws,tW qs]/\(∀v∈vs,Sml v)/\(∀w∈ws,Sml w)/\vs.length<=4/\ws.length<=4/\QOk qs/\qs.length<=1000/\zav qs vs ws=true/\Q (.o (sAll qs vs ws).enc)
def zlp(m:Nat):List GF->2.0->Prop:=λds Q=>∃(s:Sg) (x:0.7),ds = [s.enc,tS x]/\s.Ok/\s.depth<=m/\Sml x/\Q (.o (.bool (s.val x)))
theorem zrp(h:zlp 0 ds Q):False:=by
 obtain⟨s,_,_,_,h,_⟩:=h;cases s <;> simp[Sg.depth] at h
def zkr(m:Nat):List GF->2.0->Prop:=λds Q=>∃s:Sg,ds = [s.enc]/\s.Ok/\s.depth<=m/\s.nodes<=1000/\Q (.n (s.asked.map tS))
theorem ztt(h:zkr 0 ds Q):False:=by
 obtain⟨s,_,_,h,_⟩:=h;cases s <;> simp[Sg.depth] at h
theorem zd5:∀s:Sg,s.asked.length<=s.nodes
 | .lit _=>Qw _
 | .inn _=>Qi _
 | .neg s=>Nat.le_succ_of_le (zd5 s)
 | .both _ a b=>by have:=zd5 a;have:=zd5 b;show(a.asked++b.asked).length<=a.nodes+b.nodes+1;rw[Qk];lia
def zsc:List GF->2.0->Prop:=λds Q=>∃(vs ws qs:2.9),ds = [tW vs,tW ws,tW qs]/\(∀v∈vs,Sml v)/\(∀w∈ws,Sml w)/\vs.length<=4/\ws.length<=4/\QOk qs/\qs.length<=1000/\zav qs vs ws=true/\Q (.o 13.1)
theorem zmg(h:QOk qs):∀q∈qs,Sml q:=λq hq=>⟨by have:=(h q hq).1;lia,λc hc=>by have:=(h q hq).2 c hc;lia⟩
end L3
namespace LI
open PySem PySem.Spec
theorem zpu{h:Heap}{l:Addr}{xs:10.3}{n:Nat}(e:h.get? l=some { cls:=.type "list",dict:=none,data:=.seq xs n,slots:=#[] })(f g:Array GE->Array GE)(eq:f xs=g xs):h.update l (QJ f)=h.update l (QJ g):=by
 have h1:=((Heap.get?_eq_some h l _).mp e).1;obtain⟨objs,life⟩:=h
 have hm:objs.modify l (QJ f)=objs.modify l (QJ g):=by
  refine Array.ext_getElem? λi=>?_;rw[Ud,Ud]
  split
  .rename_i c
   subst c;have h1:objs[l]? = _:=h1;rw[h1];show some (QJ f _)=some (QJ g _);unfold QJ;dsimp only;rw[eq]
  .rfl
 show Heap.mk (objs.modify l (QJ f)) life=Heap.mk (objs.modify l (QJ g)) life;rw[hm]
theorem call_insert{prog:GJ}{s:GH}{its:2.8}{n i:Nat}(e:s.heap.get? l=some { cls:=.type "list",dict:=none,data:=.seq its.toArray n,slots:=#[] })(hi:i<=its.length)(hz:its.length<sizeLine)
 (h:Q .none { s with heap:=s.heap.update l (QJ λ_=>(its.take i++u::its.drop i).toArray) }):wpAny 1.3 A (call (.builtin "list.insert") [.ref l,.int (i:Int) t,u]) Q E s:=by
 have sz:=GK;obtain⟨x,hx⟩:∃x:Int,x=(i:Int):=⟨_,rfl⟩
 have hfit:¬(!Builtin.List.listFitsIndex x)=true:=by
  have h1:(-(2 ^ 63:Int)<=x):=by lia
  have h2:x<2 ^ 63:=by lia
  unfold Ya;rw[N6 h1,N6 h2];decide
 rw[<- hx];refine Tw F.slot_list_insert ⟨_,e,rfl⟩ F.entry_list_insert (F.args_list_insert_3 _ _ _) (PySem.AutoSeq1.list_insert_list_int_val_1 l its.toArray n x t u hfit (by rw[Qu];lia)) ⟨e,?_⟩
 have eq:=zpu e (λxs=>have k:=if x<0 then(x+(xs.size:Int)).toNat else min x.toNat xs.size;(xs.extract 0 k).push u++xs.extract k) (λ_=>(its.take i++u::its.drop i).toArray) (by
  have e1:¬(x<0):=by lia
  have e2:min x.toNat its.toArray.size=i:=by simp;lia
  simp only[e1,NB,e2];apply ZT.mp
  simp[VL])
 show Q .none _;rw[eq];exact h
end LI
namespace L3
open PySem PySem.Spec
open PyProof.Rows hiding St
open L2 L6
def zmp:V->List V->Hp->VK->Prop:=λx vs H Q=>∃(l:Addr) (xs:5.4) (i:Nat) (y:V),x = .ref l/\vs = [.int (i:Nat),y]/\H l=some 2.3/\xs.length<sizeLine/\i<=xs.length/\Q .non (upd H l (.lst (xs.take i++y::xs.drop i)))
theorem zvu: MtR X "list.insert" zmp:=by
 intro pins s σ H x vs v us Q I rx rv h;obtain⟨l,xs,i,y,rfl,rfl,hH,hz,hi,q⟩:=h;cases rx
 cases rv with
 | cons r1 rv=>
   obtain⟨t,rfl⟩:=r1;obtain⟨u,rfl,ru⟩:=Vals.one rv;obtain⟨z,its,n,r,hl,e⟩:=I.lstM hH;have sz:=GK;refine LI.call_insert e 0.0 0.0 ?_;refine⟨.non,_,I.lset (its':=its.take i++u::its.drop i) hH e rfl ((r.take i).append (.cons ru (r.drop i))) ?_,rfl,q⟩
   .rw[Qk,Qq,Zt,Z0];lia
section
variable {K:Qa}{O:Ob}
def insS(i:Nat)(fi fv:DE):DS:=λDd ρ=>∃ds,ρ[i]? = some 6.9/\fi ρ λr0=>fv ρ λr=>∃k:Nat,r0.d = .int (k:Nat)/\k<=ds.length/\flat r.d=true/\ds.length<sizeLine/\Dd.nx (ρ.set i (some (.own (ds.take k++r.d::ds.drop k))))
theorem zwm{i:Nat}(h0:ED K O t0 f0)(h:5.1):SD K O (zbu (tBM K "list" zmp (tVar i) (zal t0 (zal t tNil)))) (insS i f0 f):=λH₀ A σ H ρ D Dd r q P=>by
 obtain⟨ds,e,q⟩:=q;obtain⟨v,hv,a,xs,rfl,ha,hl,hs⟩:=r.at_ i _ e;refine⟨_,hv,?_⟩;refine⟨.inl 8e8,?_⟩;refine h0 σ H ρ _ _ r.seen q λw0 H1 x0 s1 o1 q1=>?_;have r1:=r.stp s1;refine h σ H1 ρ _ _ r1.seen q1 λw H2 x s2 o2 zz=>?_;obtain⟨k,ek,hk,fl,hz,q2⟩:=zz;have r2:=r1.stp s2;have i0:=o1.is r.ok r.p;rw[ek] at i0;cases i0;obtain⟨v2,hv2,a2,xs2,e2,ha2,hl2,hs2⟩:=r2.at_ i _ e;rw[hv] at hv2;cases hv2;cases e2;refine⟨a,xs2,k,w,rfl,rfl,hl2,by rw[hs2.length];exact hz,by rw[hs2.length];exact hk,?_⟩;have iw:Is K 7.7 H2 w x.d:=Is.flat (TupStay.refl H2) (o2.is r.ok r1.p) fl;exact P.nx A σ _ _ (r2.change e hv ha ((hs2.take k).append (.cons iw (hs2.drop k)))) ((Frm.stp 4.9).trans (.change ha)) q2
end
section
variable {ι κ:Type}{P:GJ}{w:GL}{K:Qa}{mg:0.1}{base:Heap}{k:Nat}{X:0e1}{O:1e5}{a b:Expr}{fa fb:DE}{pos p:Pos}
theorem ydb(n:Nat){apos cpos:Pos}(C:0.8)(ha:1.6)(hb:3.7)(hN:3.1:=by intro i;rfl)(hv:9.4:=by intro i;first|exact Or.inl rfl|exact Or.inr 8.4|exact Or.inr 8.3)(hd:1.5:=by decide)(hcd:6.4:=by decide)
 (hbase:∀i,GM 1.8 "insert" (X i).env 27.5=eval 1.8 (X i).env:=by intro i;rfl)
 (hfew:∀i,((Tg cpos (GI [a,b] (X i).env)).all 20.7 && (TC cpos 24.9).all 7.4 && decide (([a,b]:List Expr).length+([]:List Td).length+4.0<30))=true:=by intro i;rfl)
 (hline:4.4:=by rfl) (hs:∀i,GI [a,b] (X i).env=4.2::GI [b] (X i).env:=by intro i;rfl) (hs2:∀i,GI [b] (X i).env=1e4::GI [] (X i).env:=by intro i;rfl) (hpl:∀i,(Tg cpos (GI [b] (X i).env)).any (·.1)=false:=by intro i;rfl) (hsw:∀i,GV (.Call (.Attribute 1.8 "insert" apos) [a,b] [] cpos) none pos.line (X i).env=pure false:=by intro i;rfl) :
 S3 K X O (.Expr (.Call (.Attribute 1.8 "insert" apos) [a,b] [] cpos) pos) (insS n fa fb):=let ⟨_,p1,d1⟩:=ha;let ⟨_,p2,d2⟩:=hb;
 ⟨zbu (tBM K "list" zmp (tVar n) (zal _ (zal _ tNil))),λi=>by
  have h:=zc3 (apos:=apos) (cpos:=cpos) QU PySem.F.slot_list_insert PySem.F.type_list_insert (zvu (X:=X i)) 12.0 (zao (p1 i) (zao (p2 i) za0 (hs2 i)) (hs i)) 18.3 (hfew i) hline (hs i) (hpl i);rw[C.hK] at h
  exact zdc h (hsw i),λj=>zwm (d1 j) (d2 j)⟩
end
end L3
namespace HK
open PySem PySem.Spec PyProof.Rows
mutual
def hk:GF->Bool
 | .int _=>true
 | .str _=>true
 | .tuple ds=>hks ds
 | _=>false
def hks:List GF->Bool
 | []=>true
 | d::ds=>hk d && hks ds
end
mutual
def hD(w:GL):GF->Int
 | .int i=>hashInt i
 | .str x=>Mv w x
 | .tuple ds=>reduceHash (Builtin.Tuple.tupleHashOf (hDs w ds))
 | _=>0
def hDs(w:GL):List GF->List Int
 | []=>[]
 | d::ds=>hD w d::hDs w ds
end
mutual
def bv:GF->Bool
 | .int _=>true
 | .tuple ds=>bvs ds
 | _=>false
def bvs:List GF->Bool
 | []=>true
 | d::ds=>bv d && bvs ds
end
mutual
def dr:GF->Nat
 | .tuple ds=>drs ds+1
 | _=>1
def drs:List GF->Nat
 | []=>0
 | d::ds=>dr d+drs ds
end
end HK
namespace HK
open PySem PySem.Spec PyProof.Rows PySem.W
mutual
def dlt:GF->GF->Bool
 | .int i,.int j=>decide (i<j)
 | .str x,.str y=>decide (x.cps.toList<y.cps.toList)
 | .tuple xs,.tuple ys=>dlts xs ys
 | _,_=>false
def dlts:List GF->List GF->Bool
 | [],[]=>false
 | [],_::_=>true
 | _::_,[]=>false
 | x::xs,y::ys=>if QB x y then dlts xs ys else dlt x y
end
end HK
namespace L3
open PySem PySem.Spec PySem.Calls
open PyProof.Rows hiding St
open L2
def PS1(X:Cx)(st:Stmt)(t:TS):Prop:=∀(pins:1.1) (s:GH) (σ:St) (H:Hp) (D:Ends),1<=s.toks->Inv X pins σ H s->t D σ H->wpAny 0.5 X.A (exec st X.env) (SP X pins D) X.xe s
def PSs1(X:Cx)(st:6e0)(t:TS):Prop:=∀(pins:1.1) (s:GH) (σ:St) (H:Hp) (D:Ends),1<=s.toks->Inv X pins σ H s->t D σ H->wpAny 0.5 X.A (execs st X.env) (SP X pins D) X.xe s
section
variable {X:Cx}{st:Stmt}{rest body:6e0}{t u tb:TS}{tc:TT}{c:Expr}{pos:Pos}
theorem yaf(h:PS X st t):PS1 X st t:=λpins s σ H D _ I q=>h pins s σ H D I q
theorem z8d(h:PSs X rest t):PSs1 X rest t:=λpins s σ H D _ I q=>h pins s σ H D I q
theorem tk{α:Type}{p:Sem α}{Q Q':α->GH->Prop}{s:GH}(hn:1<=s.toks)(h:wpAny M A p Q E s)(hQ:∀a s',1<=s'.toks->Q a s'->Q' a s'):wpAny M A p Q' E s :=
 wpAny_with_toks (n:=1) hn (GQ h (λa s' q z=>hQ a s' z q) λ_ _ q _=>q)
theorem zvq(h1:PS1 X st t)(h2:PSs1 X rest u):PSs1 X (st::rest) (tSeq t u):=by
 intro pins s σ H D k I h;refine TZ (tk k (h1 pins s σ H { D with nx:=u D } k I h) λf s1 k1 q=>?_)
 cases f with
 | next=>
   obtain⟨σ',H',I',q⟩:=q;exact h2 pins s1 σ' H' D k1 I' q
 | ret v=>exact q
 | brk=>exact q
 | cont=>exact q
theorem zz0(h1:PS1 X st t):PSs1 X [st] t:=by
 intro pins s σ H D k I h;refine TZ (thn (h1 pins s σ H D k I h) λf s1 q=>?_)
 cases f with
 | next=>exact TU q
 | ret v=>exact q
 | brk=>exact q
 | cont=>exact q
theorem ya4(hc:PT X c tc)(ha:PSs1 X a t)(hb:PSs1 X b u):PS1 X (.If c a b pos) (tIfS tc t u):=by
 intro pins s σ H D k I h;refine wpAny_If (tk k (hc pins s σ H _ I h) λd s1 k1 zz=>?_);obtain⟨H1,I1,q1⟩:=zz
 cases d with
 | true=>exact ha pins s1 σ H1 D k1 I1 q1
 | false=>exact hb pins s1 σ H1 D k1 I1 q1
theorem zxj(hp:Mx 0.5 X.A X.env X.xe)(hc:PT X c tc)(hb:PSs1 X body tb):PS1 X 23.9 (zgg tc tb):=by
 intro pins s σ H D k I h;obtain⟨W,⟨m0,w0⟩,turn⟩:=h;refine wpAny_While (codeAny_whileLoop (λn s'=>1<=s'.toks/\∃σ' H',Inv X pins σ' H' s'/\W n σ' H') ?_ m0 ⟨k,σ,H,I,w0⟩);rintro n s1 ⟨k1,σ1,H1,I1,w1⟩;refine Tr hp (tk k1 (hc pins s1 σ1 H1 _ I1 (turn n σ1 H1 w1)) λb s2 k2 zz=>?_);obtain⟨H2,I2,q2⟩:=zz
 cases b with
 | true=>
   obtain⟨N,hN,q2⟩:=q2;rw[N3 rfl];refine Tr hp (tk k2 (hb pins s2 σ1 H2 _ k2 I2 q2) λf s3 k3 q3=>?_)
   cases f with
   | next=>
     obtain⟨σ3,H3,I3,n3⟩:=q3;obtain⟨m',hm,w3⟩:=hN σ3 H3 n3;exact⟨m',hm,k3,σ3,H3,I3,w3⟩
   | cont=>
     obtain⟨σ3,H3,I3,n3⟩:=q3;obtain⟨m',hm,w3⟩:=hN σ3 H3 n3;exact⟨m',hm,k3,σ3,H3,I3,w3⟩
   | brk=>exact q3
   | ret v=>exact q3
 | false=>
   rw[N4 Qt];exact TU ⟨σ1,H2,I2,q2⟩
theorem z5c{n:Nat}{i:Int}{jj x1}(h2:PE X e2 t2)(hr:PSs1 X rest u)(hN:X.N.Nodup)(hi:X.N[n]? = some x)(hx:19.3)
 (hst:GI [.Constant 1e2 jj p1,e2] X.env=(false,eval (.Constant 1e2 jj p1) X.env)::GI [e2] X.env:=by rfl) (hst2:GI [e2] X.env=(false,eval e2 X.env)::GI [] X.env:=by rfl)
 (hs:GV (.Tuple [.Constant 1e2 jj p1,e2] x1 p0) 5e3 pos.line X.env=pure false:=by rfl) (hf:1e9:=by first|exact .inl rfl|exact .inr rfl) :
 PSs X (.Assign [.Name x px] (.Tuple [.Constant 1e2 jj p1,e2] x1 p0) pos::rest) (tSeq (tAsg (tTup (zal (tC 1e2) (zal t2 tNil))) (zau n)) u):=by
 intro pins s σ H D I h;refine TZ (M4 ?_ hs);refine wpAny_Tuple_spliced ?_;rw[hst];show wpAny _ _ (Mm ((false,eval (.Constant 1e2 jj p1) X.env)::Tg p0 (GI [e2] X.env))) _ _ s;refine QV (wpAny_Constant_int (k:=jj) (pos:=p1) ?_);have I0:=I.tok (s.toks+1);have h':zal t2 tNil σ H (λvs H1=>(V.int i::vs).length<=sizeLine/\∀p,H1 p=none->u D (σ.set n (some 6e6)) (upd H1 p (.tup (.int i::vs)))):=h;have hA:=zao h2 za0 hst2 p0 pins 5e9 σ H _ I0 h';refine tk (show 1<=s.toks+1 by lia) hA λus s1 k1 zz=>?_;obtain⟨vs,H1,I1,r1,z,q⟩:=zz;refine⟨by simp only[Qq] at z ⊢;rw[<- r1.length];exact z,?_⟩;have hfr:H1 s1.heap.objs.size=none:=I1.hok.fresh (Qi _);have q':=q _ hfr
 have I2:Inv X pins σ (upd H1 s1.heap.objs.size (.tup (.int i::vs))) { s1 with heap:=s1.heap.push { cls:=.type "tuple",data:=.seq (JN i s.toks::us).toArray },toks:=s1.toks } :=
  I1.laid (t':=s1.toks) (λb u e=>Qb _ e) (Qi _) ⟨z,_,.cons ⟨_,rfl⟩ r1,⟨_,Qp _ rfl,rfl,_,rfl⟩⟩
 refine tk (by exact k1) (ze0 I2 hN hi hx (v:=.ref s1.heap.objs.size) (u:=.ref s1.heap.objs.size) rfl (Q:=λ_ s3=>∃σ3 H3,Inv X pins σ3 H3 s3/\u D σ3 H3) (λs3 I3=>⟨_,_,I3,q'⟩) hf) λ_ s3 k3 zz=>?_;obtain⟨σ3,H3,I3,q3⟩:=zz;exact hr pins s3 σ3 H3 D k3 I3 q3
def z2z(y z:Str)(te:TE):TE:=λσ H Q=>te σ H λv H1=>∃x,v = .str x/\x.length+(x.length+1) * z.length<=16777216/\Q (.str (V3 x y z)) H1
theorem z7n{n:Nat}{k2 k3:Nat}{apos cpos:Pos}(hyz:(y == z)=false)(he:PE X a te)(hN:X.N.Nodup)(hi:X.N[n]? = some x)(hx:19.3)
 (hbase:GM a "replace" X.env (eval a X.env)=eval a X.env)
 (hfew:((Tg cpos (GI [.Constant 8e0 k2 w2,.Constant (.str z) k3 w3] X.env)).all 20.7 && (TC cpos (Ti [] X.env)).all 7.4 && decide (([.Constant 8e0 k2 w2,.Constant (.str z) k3 w3]:List Expr).length+([]:List Td).length+4.0<30))=true)
 (hline:4.4) (hs2:GI [.Constant 8e0 k2 w2,.Constant (.str z) k3 w3] X.env = [(false,eval (.Constant 8e0 k2 w2) X.env),(false,eval (.Constant (.str z) k3 w3) X.env)])
 (hs:GV 10.9 5e3 pos.line X.env=pure false) (hf:1e9) :
 PS1 X (.Assign [.Name x px] 10.9 pos) (tAsg (z2z y z te) (zau n)):=by
 intro pins s σ H D k I h;have h':te σ H (λv H1=>∃x,v = .str x/\x.length+(x.length+1) * z.length<=16777216/\D.nx (σ.set n (some (.str (V3 x y z)))) H1):=h;refine M4 ?_ hs;refine Mf hbase hfew hline rfl ?_;refine tk k (he pins s σ H _ I h') λv s3 kt zz=>?_;obtain⟨u,H3,I3,r3,xx,e3,hz,q3⟩:=zz;subst e3;obtain⟨t,rfl⟩:=r3;refine⟨"str", "str.replace",Jg,PySem.F.slot_str_replace,PySem.F.type_str_replace,rfl,(λa e=>by cases e),?_⟩;rw[hs2];refine JD rfl (YR (QV (Vg (k:=k2) (pos:=w2) (QV (Vg (k:=k3) (pos:=w3) (Zu ?_))))));refine SC.replace (by show s3.toks≠0;lia) (by show s3.toks+1≠0;lia) (by show s3.toks≠s3.toks+1;lia) hyz hz λt' k=>?_;exact ze0 (I3.tok k) hN hi hx (v:=.str (V3 xx y z)) ⟨t',rfl⟩ (λs' I'=>⟨_,H3,I',q3⟩) hf
end
def repA(y z:Str)(f:DE):DE:=λρ Q=>f ρ λr=>∃x,r.d = .str x/\x.length+(x.length+1) * z.length<=16777216/\Q (.o (.str (V3 x y z)))
theorem z4w{K:Qa}{O:Ob}{y z:Str}{t:TE}{f:DE}(h:5.1):ED K O (z2z y z t) (repA y z f):=λσ H ρ Q Qd S hf k=>by
 refine h σ H ρ _ _ S hf λv H1 r s1 o1 zz=>?_;obtain⟨x,e,hz,q⟩:=zz;have i:=o1.is S.ok S.p;rw[e] at i;cases i;exact⟨x,rfl,hz,k _ H1 (.o _) s1 22.4 q⟩
def Sy3(K:Qa)(mg:0.1)(Y:Cx)(E:XK)(O:Ob)(s:Stmt)(g:DS):Prop:=∃t,PS1 Y s t/\SDx K mg O E t g
def Ssy3(K:Qa)(mg:0.1)(Y:Cx)(E:XK)(O:Ob)(s:6e0)(g:DS):Prop:=∃t,PSs1 Y s t/\SDx K mg O E t g
section
variable {P:GJ}{w:GL}{K:Qa}{mg:0.1}{base:Heap}{k:Nat}{Y:Cx}{E:XK}{O:Ob}{c a:Expr}{ft:DT}{fa:DE}{st:Stmt}{sts sa sb body:6e0}{g1 g2:DS}{pos p:Pos}
theorem y_of(h:Sx3 K mg Y E O st g1):Sy3 K mg Y E O st g1:=let ⟨t,p,d⟩:=h;⟨t,yaf p,d⟩
theorem z3y(h:Ssx3 K mg Y E O sts g1):Ssy3 K mg Y E O sts g1:=let ⟨t,p,d⟩:=h;⟨t,z8d p,d⟩
theorem zgo(h:Sy3 K mg Y E O st g1):Ssy3 K mg Y E O [st] g1:=let ⟨_,p,d⟩:=h;⟨_,zz0 p,d⟩
theorem zds(h:Sy3 K mg Y E O st g1)(h':Ssy3 K mg Y E O sts g2):Ssy3 K mg Y E O (st::sts) (seqD g1 g2):=let ⟨_,p,d⟩:=h;let ⟨_,p2,d2⟩:=h';⟨_,zvq p p2,zl0 d d2⟩
theorem y_if(hc:11.3)(h:Ssy3 K mg Y E O sa g1)(h':Ssy3 K mg Y E O sb g2):Sy3 K mg Y E O (.If c sa sb pos) (ifS ft g1 g2):=let ⟨_,p,d⟩:=hc;let ⟨_,p1,d1⟩:=h;let ⟨_,p2,d2⟩:=h';⟨_,ya4 (PT.nox (p ())) p1 p2,zxu (d ()) d1 d2⟩
theorem z7i(B:Bdy P w Y E)(hc:11.3)(hb:Ssy3 K mg Y E O body g1):Sy3 K mg Y E O 23.9 (zgf ft g1):=by
 obtain⟨tc,p1,d1⟩:=hc;obtain⟨tb,p2,d2⟩:=hb;have po:Mx (model Y.prog Y.w) Y.A Y.env Y.xe:=by rw[B.xe,B.prog,B.wld];exact Vz
 exact⟨_,zxj po (PT.nox (p1 ())) p2,zwc (d1 ()) d2⟩
theorem yc2(n:Nat){k2 k3:Nat}{apos cpos:Pos}(ha:E3 K (λ_:Unit=>Y.nox) (λ_:Unit=>O) a fa)(hyz:(y == z)=false:=by decide +kernel)(hN:Y.N.Nodup:=by exact N7 1.9)(hi:Y.N[n]? = some x:=by rfl)(hx:Loc Y.env.scope x:=by first|exact Or.inl rfl|exact Or.inr rfl)
 (hbase:GM a "replace" Y.env (eval a Y.env)=eval a Y.env:=by rfl)
 (hfew:((Tg cpos (GI [.Constant 8e0 k2 w2,.Constant (.str z) k3 w3] Y.env)).all 20.7 && (TC cpos (Ti [] Y.env)).all 7.4 && decide (([.Constant 8e0 k2 w2,.Constant (.str z) k3 w3]:List Expr).length+([]:List Td).length+4.0<30))=true:=by rfl)
 (hline:4.4:=by rfl) (hs2:GI [.Constant 8e0 k2 w2,.Constant (.str z) k3 w3] Y.env = [(false,eval (.Constant 8e0 k2 w2) Y.env),(false,eval (.Constant (.str z) k3 w3) Y.env)]:=by rfl)
 (hs:GV 10.9 5e3 pos.line Y.env=pure false:=by rfl) (hf:15.7:=by first|exact .inl rfl|exact .inr rfl) :
 Sy3 K mg Y E O (.Assign [.Name x px] 10.9 pos) (asgS n (repA y z fa)) :=
 let ⟨_,p,d⟩:=ha;⟨_,z7n hyz (PE.nox (p ())) hN hi hx hbase hfew hline hs2 hs hf,zkk (zhu (z4w (d ())))⟩
theorem yar(n:Nat){i:Int}{jj x1}(ha:E3 K (λ_:Unit=>Y.nox) (λ_:Unit=>O) a fa)(hr:Ssy3 K mg Y E O sts g2)(hN:Y.N.Nodup:=by exact N7 1.9)(hi:Y.N[n]? = some x:=by rfl)(hx:Loc Y.env.scope x:=by first|exact Or.inl rfl|exact Or.inr rfl)
 (hst:GI [.Constant 1e2 jj p1,a] Y.env=(false,eval (.Constant 1e2 jj p1) Y.env)::GI [a] Y.env:=by rfl) (hst2:GI [a] Y.env=(false,eval a Y.env)::GI [] Y.env:=by rfl)
 (hs:GV (.Tuple [.Constant 1e2 jj p1,a] x1 p0) 5e3 pos.line Y.env=pure false:=by rfl) (hf:15.7:=by first|exact .inl rfl|exact .inr rfl) :
 Ssx3 K mg Y E O (.Assign [.Name x px] (.Tuple [.Constant 1e2 jj p1,a] x1 p0) pos::sts) (seqD (asgS n (tupD (zbl (cD 1e2) (zbl fa aNil)))) g2) :=
 let ⟨_,p,d⟩:=ha;let ⟨_,p2,d2⟩:=hr;⟨_,z5c (PE.nox (p ())) p2 hN hi hx hst hst2 hs hf,zl0 (zkk (zhu (zyl (zmv zwd (zmv (d ()) zpg))))) d2⟩
end
end L3
namespace L70
open PySem PySem.Spec
open PyProof.Rows hiding St
open L2 L3 L6
local macro_rules | `(tactic| infer_instance)=>`(tactic| first|refine⟨_,_,rfl,rfl,?_⟩|refine⟨_,eqI,?_⟩|refine⟨_,neI,?_⟩|refine⟨_,rfl,?_⟩|refine⟨rfl,?_⟩|refine⟨(by show _ ≤ sizeLine;rw[GK];exact Nat.le_of_ble_eq_true rfl),?_⟩|refine⟨_,_,rfl,?_⟩|refine⟨_,_,_,rfl,?_⟩|refine iteT ?_|refine iteF ?_|refine Or.inl ⟨rfl,?_⟩|refine Or.inr ⟨rfl,?_⟩|refine⟨_,zir (by decide +kernel),?_⟩|refine⟨_,zks (by decide +kernel) (by decide +kernel),?_⟩|refine⟨_,yd2 (by decide +kernel),?_⟩|refine⟨_,ydh (by decide +kernel),?_⟩)
section
variable {P:GJ}{w:GL}{K:Qa}{mg:0.1}{base:Heap}{k:Nat}
abbrev zmn:Stmt:=top 1
theorem zzs:FnScope ["text"] ["text"] (zag zmn):=1.0
theorem zhz(B:7.1)(T:Top3 K mg "is_word" zmn):Def3 P w K mg base 1 "is_word" ["text"] (spO K 1.4 1 zy9):=by
 refine mk_O T zzs 8.0 rfl λf cdv A outer s H E O hφ C=>⟨_,(zaf (zap (zu4 C B (zab (zf6 1 ["sign", "text"] C 4e7 (zkm 2.6) (zay 0) zgr (yd6 zak 2.6 zak)) zad)))),λds Qr hn q=>?_⟩;obtain⟨v,rfl,hl,q⟩:=q;have sz:=GK;have es:sgs (tx v)=v.map λc=>.str (sg c):=by unfold sgs;rw[zax]
 ac_rfl
 rw[es];refine zev (α:=Nat) (enc:=λc=>.str (sg c)) (e:=λc=>.bool (decide (97<=c) && decide (c<=122))) (λc hc P hP=>?_) 0.0 ?_
 .exact ydx (lo:=97) (hi:=122) rfl (hP _ rfl)
 refine⟨_,ya6 v _,?_⟩;rw[yb0];exact q
end
section
variable {P:GJ}{w:GL}{K:Qa}{mg:0.1}{base:Heap}{k:Nat}
abbrev zg4:Stmt:=top 2
theorem zrw:FnScope ["word"] ["word"] (zag zg4):=1.0
theorem zfc(B:7.1)(T:Top3 K mg "word_order" zg4):Def3 P w K mg base 1 "word_order" ["word"] (spO K 1.4 1 zlf):=by
 refine mk_O T zrw 8.0 rfl λf cdv A outer s H E O hφ C=>⟨_,(zaf (zap (zbr (zab (zcc C B 6e5) 6e5)))),λds Qr hn q=>?_⟩;obtain⟨v,rfl,hv,q⟩:=q;exact⟨_,_,rfl,rfl,_,zgj 0.0,_,_,rfl,rfl,by show 2<=sizeLine;decide,q _ rfl⟩
end
section
variable {P:GJ}{w:GL}{K:Qa}{mg:0.1}{base:Heap}{k:Nat}
abbrev zhr:Stmt:=top 3
theorem zup:FnScope ["word"] ["word"] (zag zhr):=1.0
theorem zf1(B:7.1)(T:Top3 K mg "show_word" zhr):Def3 P w K mg base 1 "show_word" ["word"] (spO K 1.4 1 zzf):=by
 refine mk_O T zup 8.0 rfl λf cdv A outer s H E O hφ C=>⟨_,(zaf (zap (e_if (t_eq C 2.6 zak) zak 2.6))),λds Qr hn q=>?_⟩;obtain⟨w,rfl,hw,q⟩:=q
 (repeat first|refine⟨_,zpl hw,?_⟩|refine⟨zpl hw,?_⟩|infer_instance)
 rw[sgd];dsimp only
 by_cases z:w = []
 .rw[N3 z] at q;rw[N6 z];exact iteT q
 .rw[N4 z] at q;rw[N5 z];refine iteF ?_
  ac_rfl
  exact q
end
section
variable {P:GJ}{w:GL}{K:Qa}{mg:0.1}{base:Heap}{k:Nat}
abbrev zm6:Stmt:=top 4
theorem zzp:FnScope ["less", "more", "found", "start", "letter", "place"] ["less", "more"] (zag zm6):=1.0
theorem zjv(B:7.1)(T:Top3 K mg "places" zm6):Def3 P w K mg base 1 "places" ["less", "more"] (spO K 1.4 2 zr9):=by
 refine mk_O T zzp 4.3 rfl λf cdv A outer s H E O hφ C=>⟨_,(zae (zan 2 (zb2 zad)) (zae (zan 3 zai) (zae (zbv C (zby (zkm 2.6)) 12.4 (zae (zan 5 (z5h C 4.8 (zab 9.3 13.5))) (zae (s_if (t_lt 9.2 zai) (zaf (zap zfr)) zar) (zae (zgp 2 C 9.2) (zaf (zan 3 (zaz C 9.2 zai))))))) (zaf (zq1 2))))),λds Qr hn q=>?_⟩;obtain⟨less,more,rfl,hs,hm,q0,q1⟩:=q;have sz:=GK;have hl:=hs.1;have hl2:=hm.1;refine⟨Qw _,rfl,rfl,_,_,rfl,rfl,_,rfl,rfl,?_⟩
 refine za3 (λj ρ=>∃(acc:0.7) (start:Nat) (o4 o5:1e6),ρ = [some (.im (tS less)),some (.im (tS more)),some (.own (acc.map λp=>.int (p:Nat))),some (.im (.int (start:Nat))),o4,o5]/\plc less more 0 []=plc (less.drop j) more start acc/\acc.length<=j/\start<=more.length/\j<=less.length)
  ⟨[],0,none,none,rfl,rfl,Qi _,Qw _,Qw _⟩ (λρ ⟨acc,start0,o4,o5,e,h1,h2,h3,h4⟩=>?_) λj d ρ N hd hN ⟨acc,start0,o4,o5,e,h1,h2,h3,h4⟩=>?_
 .subst e;rw[zgn,ZF] at h1;exact⟨_,rfl,q1 acc h1⟩
 .subst e;obtain⟨c,hc,rfl⟩:=zil hd;obtain⟨hlt,ec⟩:=Qc.mp hc;rw[Q4 hlt,ec] at h1;refine 4.1;refine⟨_,_,rfl,rfl,_,rfl,_,_,rfl,rfl,_,_,rfl,rfl,_,_,rfl,rfl,?_⟩;rw[z7q h3];rw[show plc (c::less.drop (j+1)) more start0 acc=match zbq c more start0 with|none=>none|some p=>plc (less.drop (j+1)) more (p+1) (acc ++ [p]) from rfl] at h1
  cases hf:zbq c more start0 with
  | none=>
    rw[hf] at h1;rw[show ziu c more start0 = -1 by unfold ziu;rw[hf]];exact⟨_,_,rfl,rfl,_,rfl,_,rfl,q0 h1⟩
  | some p=>
    rw[hf] at h1;rw[show ziu c more start0=(p:Int) by unfold ziu;rw[hf]];obtain⟨_,b,_⟩:=zfp hf;obtain⟨b1,_⟩:=Qc.mp b;refine⟨_,_,rfl,rfl,_,rfl,_,rfl,?_⟩;rw[N5 0.0];refine iteF ⟨_,rfl,_,_,rfl,rfl,rfl,by rw[Qf];lia,_,_,rfl,rfl,_,rfl,rfl,hN _ ⟨acc ++ [p],p+1,some (.im (.str (sg c))),some (.im (.int (p:Nat))),?_,h1,by simp;lia,b1,hlt⟩⟩;show[_,_,some (DV.own (acc.map (λp=>UB (p:Nat)) ++ [UB (p:Nat)])),some (DV.im (.int ((p:Int)+1))),_,_]=_;rw[QG];rfl
end
section
variable {P:GJ}{w:GL}{K:Qa}{mg:0.1}{base:Heap}{k:Nat}
abbrev zgt:Stmt:=top 5
theorem zrh:FnScope ["less", "more"] ["less", "more"] (zag zgt):=1.0
theorem zbi(B:7.1)(zjv:Def3 P w K mg base 1 "places" ["less", "more"] (spO K 1.4 2 zr9))(T:Top3 K mg "lies_under" zgt):Def3 P w K mg base 2 "lies_under" ["less", "more"] (spO K 1.4 2 zdj):=by
 refine mk_O T zrh 4.3 rfl λf cdv A outer s H E O hφ C=>⟨_,(zaf (zap (z7s (zaq C zjv 2.1 (zab 2.6 13.4)) zfr))),λds Qr hn q=>?_⟩;obtain⟨less,more,rfl,hs,hm,q⟩:=q;rw[<- zwj] at q;refine⟨_,_,rfl,rfl,_,_,rfl,rfl,rfl,less,more,rfl,hs,hm,λh=>4.1,λps h=>4.1⟩
 .rw[h] at q;exact q
 .rw[h] at q;exact q
end
section
variable {P:GJ}{w:GL}{K:Qa}{mg:0.1}{base:Heap}{k:Nat}
abbrev zjr:Stmt:=top 7
theorem zxb:FnScope ["word", "n", "found", "letter", "longer"] ["word", "n"] (zag zjr):=1.0
theorem zb8(B:7.1)(zfc:Def3 P w K mg base 1 "word_order" ["word"] (spO K 1.4 1 zlf))(T:Top3 K mg "answers" zjr):Def3 P w K mg base 3 "answers" ["word", "n"] (spO K 1.4 2 zgq):=by
 refine mk_O T zxb 4.3 rfl λf cdv A outer s H E O hφ C=>⟨_,(zae (ycq 2) (zae (zbv C (zby (zkm 2.6)) 24.7 (zae (z5g 4 2 1 ["question", "word", "n", "found", "letter", "longer"] C 4e7 (zay 0) (zub (t_lt (zcc 10.8 B 6e5) 3.2)) (zaz 10.8 2.6 9.3)) (zaf (yd8 2 C B (zf6 1 ["question", "word", "n", "found", "letter", "longer"] C 4e7 (zky C 9.3) (zay 0) zgr (zbr (zab 2.6 (zab e_bl zad)))))))) (zaf (zap (zew C B (zab (z1p 2 C B zfc 2.1) zad)))))),λds Qr hn q=>?_⟩;obtain⟨v,n,rfl,hv,hn3,hf,q⟩:=q;have hl:=hv.1;have sz:=GK;refine⟨_,_,rfl,rfl,_,rfl,rfl,?_⟩;have e0:Qj "" = tx []:=by decide +kernel
 refine za3 (λj ρ=>∃(fs:2.9) (o3 o4:1e6),ρ = [some (.im (tS v)),some 0e8,some (.dct (fs.map tx)),o3,o4]/\fs.Nodup/\(∀x,x∈fs↔x.Sublist (v.take j)/\x.length<=n)/\j<=v.length)
  ⟨[[]],none,none,?_,by simp,λx=>?_,Qw _⟩ (λρ ⟨fs,o3,o4,e,h1,h2,h3⟩=>?_) λj d ρ N hd hN ⟨fs,o3,o4,e,h1,h2,h3⟩=>?_
 .show[_,_,some (DV.dct [Qj ""]),_,_]=_;rw[e0];rfl
 .rw[Uk];constructor
  .intro h;rw[Qo.mp h];exact⟨.slnil,Qw _⟩
  .rintro⟨h,_⟩;have:x = []:=by simpa using h
   rw[this];exact Qo.mpr rfl
 .subst e;rw[zgn,ZJ] at h2;have hlen:fs.length<64:=hf fs h1 λx hx=>(h2 x).mp hx;have hlx:∀x∈fs,x.length<=100:=λx hx=>by have:=((h2 x).mp hx).2;lia
  refine⟨fs.map tx,wkey,rfl,by rw[Qf];lia,λx hx=>?_,?_⟩
  .obtain⟨y,hy,rfl⟩:=QA.mp hx;exact⟨y,rfl,hlx y hy,λr hr=>hr.trans (z0w y).symm⟩
  .rw[QK,show(Zx ∘ tx)=tS from rfl,zrx];exact⟨_,rfl,q _ (zq8 h1) λx=>by rw[zvy];exact h2 x⟩
 .subst e;obtain⟨c,hc,rfl⟩:=zil hd;obtain⟨hlt,ec⟩:=Qc.mp hc;have hlen:fs.length<64:=hf fs h1 λx hx=>⟨((h2 x).mp hx).1.trans (UI _ _),((h2 x).mp hx).2⟩;have hlx:∀x∈fs,x.length<=100:=λx hx=>by have:=((h2 x).mp hx).2;lia
  refine⟨rfl,fs.map tx,rfl,?_⟩;rw[QK,show(Zx ∘ tx)=tS from rfl];refine zj0 (α:=List Nat) (enc:=tS) (p:=λx=>decide (x.length<n)) (e:=λx=>tS (x ++ [c])) (λx hx Pn Py hn hy=>?_) 0.0 ?_
  .have:=hlx x hx;refine⟨_,_,rfl,rfl,_,zgj 0.0,_,_,rfl,rfl,_,rfl,_,rfl,?_⟩
   by_cases hx2:x.length<n
   .rw[N6 0.0];exact iteT ⟨_,_,rfl,rfl,_,_,rfl,rfl,_,zd8 (v:=x) (w:=[c]) 5.0,hy (by simpa using hx2) _ rfl⟩
   .rw[N5 0.0];exact iteF (hn (by simpa using hx2))
  .refine⟨flats_iff.mpr λd hd=>by obtain⟨w,_,rfl⟩:=QA.mp hd;rfl,?_⟩;refine⟨fs.map tx,rfl,_,_,rfl,rfl,_,rfl,?_⟩;have eg:((fs.filter λx=>decide (x.length<n)).map λx=>tS (x ++ [c]))=((fs.filter λx=>decide (x.length<n)).map (· ++ [c])).map tS:=by rw[QK];rfl
   rw[eg];generalize hgs:(fs.filter λx=>decide (x.length<n)).map (· ++ [c])=gs;have hgl:gs.length<64:=by rw[<- hgs,Qf];exact U7 (VZ _ _) hlen
   refine zev (α:=List Nat) (enc:=tS) (e:=λx=>z2g (tx x)) (λx hx P hP=>?_) 0.0 ?_
   .exact⟨_,_,rfl,rfl,by show 2<=sizeLine;lia,hP _ rfl⟩
   .refine⟨gs.map tx,?_,by rw[Qf,Qf];lia,λls el=>?_⟩
    .rw[QK];rfl
    .obtain⟨hs,rfl,n1,m1⟩:=zyy h1 el;refine hN _ ⟨hs,some (.im (.str (sg c))),some (.own (gs.map tS)),rfl,n1,λx=>?_,hlt⟩;rw[m1,h2,<- hgs,Z9 hlt,ec,zz6,QA];constructor
     .rintro(⟨h,hh⟩|⟨y,hy,rfl⟩)
      .exact⟨.inl h,hh⟩
      .obtain⟨hy1,hy2⟩:=Je.mp hy;have hy2:y.length<n:=by simpa using hy2
       exact⟨.inr ⟨y,rfl,((h2 y).mp hy1).1⟩,by simp;lia⟩
     .rintro⟨h|⟨y,rfl,h⟩,hh⟩
      .exact .inl ⟨h,hh⟩
      .have hy:y.length<n:=by simp at hh;lia
       exact .inr ⟨y,Je.mpr ⟨(h2 y).mpr ⟨h,by lia⟩,by simpa using hy⟩,rfl⟩
end
section
variable {P:GJ}{w:GL}{K:Qa}{mg:0.1}{base:Heap}{k:Nat}
abbrev zo7:Stmt:=top 8
theorem z8l:FnScope ["one", "other", "n"] ["one", "other", "n"] (zag zo7):=1.0
theorem zm9(B:7.1)(zb8:24.6)(T:Top3 K mg "alike" zo7):Def3 P w K mg base 4 "alike" ["one", "other", "n"] (spO K 1.4 3 zwf):=by
 refine mk_O T z8l 4.7 rfl λf cdv A outer s H E O hφ C=>⟨_,(zaf (zap (e_eq C (zaq C zb8 2.1 (zab 2.6 7.5)) (zaq C zb8 2.1 (zab 4.8 7.5))))),λds Qr hn q=>?_⟩;obtain⟨v,w,n,rfl,hv,hf,hw,hf',hn3,q⟩:=q;refine⟨_,_,rfl,rfl,_,_,rfl,rfl,rfl,v,n,rfl,hv,hn3,hf,λL h1 m1=>?_⟩;refine⟨_,_,rfl,rfl,_,_,rfl,rfl,rfl,w,n,rfl,hw,hn3,hf',λM h2 m2=>?_⟩;refine⟨_,zf9 (q:=decide (L=M)) (zqs h1 m1 hv hf) (zqs h2 m2 hw hf') (hq:=?_),q _ ?_⟩
 .rw[N8];refine⟨λe=>by rw[e],λe=>?_⟩;injection e with e;exact zsh (λa b=>zkq) e
 .rw[N4 Qt,N8];exact yb1 h1 m1 h2 m2
end
section
variable {P:GJ}{w:GL}{K:Qa}{mg:0.1}{base:Heap}{k:Nat}
abbrev zfu:Stmt:=top 10
theorem zqq:FnScope ["ones", "others", "n", "one", "other"] ["ones", "others", "n"] (zag zfu):=1.0
theorem zec(B:7.1)(zm9:Def3 P w K mg base 4 "alike" ["one", "other", "n"] (spO K 1.4 3 zwf))(T:Top3 K mg "first_alike" zfu):Def3 P w K mg base 5 "first_alike" ["ones", "others", "n"] (spO K 1.4 3 zjm):=by
 refine mk_O T zqq 4.7 rfl λf cdv A outer s H E O hφ C=>⟨_,(zae (zbv C (zby (zc1 C 2.6)) 24.7 (zaf (zbv C (zby (zc1 C 4.8)) 12.4 (zaf (s_if (zc4 (zaq C zm9 2.1 (zab 4.5 (zab 9.3 7.5)))) (zaf (zap (zbr 22.0))) zar))))) (zaf (zap zfr))),λds Qr hn q=>?_⟩;obtain⟨vs,ws,n,rfl,hv,hw,hn,q⟩:=q;refine⟨_,_,rfl,rfl,_,rfl,rfl,?_⟩
 refine za3 (λj ρ=>∃(o3 o4:1e6),ρ = [some 13.7,some 3e2,some 0e8,o3,o4]/\zbp n ws vs=zbp n ws (vs.drop j)/\j<=vs.length)
  ⟨none,none,rfl,rfl,Qw _⟩ (λρ ⟨o3,o4,e,h1,h3⟩=>?_) λj d ρ N hd hN ⟨o3,o4,e,h1,h3⟩=>?_
 .subst e;rw[Qf,ZF] at h1;rw[h1] at q;exact q
 .subst e;rw[Ql] at hd;obtain⟨v,hvj,rfl⟩:=Qv.mp hd;obtain⟨hlt,ev⟩:=Qc.mp hvj;obtain⟨sv,fv⟩:=hv.2 v (ev ▸ QQ hlt);rw[Q4 hlt,ev] at h1;refine⟨rfl,_,_,rfl,rfl,_,rfl,rfl,?_⟩
  refine za3 (λj' ρ=>∃(o4:1e6),ρ = [some 13.7,some 3e2,some 0e8,some (.im (tS v)),o4]/\ws.find? (zbh n v)=(ws.drop j').find? (zbh n v)/\j'<=ws.length)
   ⟨_,rfl,rfl,Qw _⟩ (λρ ⟨o4,e,h1',h3'⟩=>?_) λj' d' ρ N' hd' hN' ⟨o4,e,h1',h3'⟩=>?_
  .subst e;rw[Qf,ZF] at h1';refine hN _ ⟨_,_,rfl,?_,hlt⟩;rw[h1];show(match ws.find? (zbh n v) with|some w=>some (v,w)|none=>zbp n ws (vs.drop (j+1)))=_;rw[h1'];rfl
  .subst e;rw[Ql] at hd';obtain⟨w,hwj,rfl⟩:=Qv.mp hd';obtain⟨hlt',ew⟩:=Qc.mp hwj;obtain⟨sw,fw⟩:=hw.2 w (ew ▸ QQ hlt');rw[Q4 hlt',ew,ZI] at h1';refine 4.1;refine⟨_,_,rfl,rfl,_,_,rfl,rfl,_,_,rfl,rfl,rfl,v,w,n,rfl,sv,fv,sw,fw,hn,λb hb=>14.5⟩;rw[z8p hb]
   cases ha:zbh n v w with
   | true=>
     refine iteT ⟨_,_,rfl,rfl,_,_,rfl,rfl,by show 2<=sizeLine;decide,?_⟩
     have e1:zbp n ws vs=some (v,w):=by
      rw[h1];show(match ws.find? (zbh n v) with|some w=>some (v,w)|none=>zbp n ws (vs.drop (j+1)))=_;rw[h1',ha]
     rw[e1] at q;exact q
   | false=>
     rw[ha] at h1';exact iteF (hN' _ ⟨_,rfl,h1',hlt'⟩)
end
section
variable {P:GJ}{w:GL}{K:Qa}{mg:0.1}{base:Heap}{k:Nat}
abbrev zfw:Stmt:=top 11
theorem zq0:FnScope ["question", "one", "other"] ["question", "one", "other"] (zag zfw):=1.0
theorem zcg(B:7.1)(zbi:22.3)(T:Top3 K mg "tells_apart" zfw):Def3 P w K mg base 3 "tells_apart" ["question", "one", "other"] (spO K 1.4 3 zft):=by
 refine mk_O T zq0 4.7 rfl λf cdv A outer s H E O hφ C=>⟨_,(zaf (zap (e_ne C (zaq C zbi 2.1 (zab 2.6 13.4)) (zaq C zbi 2.1 (zab 2.6 7.5))))),λds Qr hn q=>?_⟩;obtain⟨x,v,w,rfl,hx,hv,hw,q⟩:=q;refine⟨_,_,rfl,rfl,_,_,rfl,rfl,rfl,x,v,rfl,hx,hv,_,_,rfl,rfl,_,_,rfl,rfl,rfl,x,w,rfl,hx,hw,_,zpr,?_⟩;rw[N3 rfl];exact q
end
section
variable {P:GJ}{w:GL}{K:Qa}{mg:0.1}{base:Heap}{k:Nat}
abbrev zea:Stmt:=top 12
theorem zm8:FnScope ["questions", "ones", "others", "one", "other"] ["questions", "ones", "others"] (zag zea):=1.0
theorem zc6(B:7.1)(zcg:Def3 P w K mg base 3 "tells_apart" ["question", "one", "other"] (spO K 1.4 3 zft))(T:Top3 K mg "tell_all_apart" zea):Def3 P w K mg base 4 "tell_all_apart" ["questions", "ones", "others"] (spO K 1.4 3 zhi):=by
 refine mk_O T zm8 4.7 rfl λf cdv A outer s H E O hφ C=>⟨_,(zae (zbv C (zby (zc1 C 4.8)) 24.7 (zaf (zbv C (zby (zc1 C 3.2)) 12.4 (zaf (s_if (zkv (zc4 (z2r C B (zab (zf6 1 ["question", "questions", "ones", "others", "one", "other"] C 4e7 (zky C 2.6) (zay 0) zgr (zaq 10.8 zcg 2.1 (zab 2.6 (zab 9.3 17.0)))) zad)))) 27.8 zar))))) 27.8),λds Qr hn q=>?_⟩;obtain⟨qs,vs,ws,rfl,hql,hq,hv,hw,q⟩:=q;have sz:=GK;refine⟨_,_,rfl,rfl,_,rfl,rfl,?_⟩
 refine za3 (λj ρ=>∃(o3 o4:1e6),ρ = [some (.im (lW qs)),some 13.7,some 3e2,o3,o4]/\zav qs vs ws=zav qs (vs.drop j) ws/\j<=vs.length)
  ⟨none,none,rfl,rfl,Qw _⟩ (λρ ⟨o3,o4,e,h1,h3⟩=>?_) λj d ρ N hd hN ⟨o3,o4,e,h1,h3⟩=>?_
 .subst e;rw[Qf,ZF] at h1;rw[h1] at q;exact q
 .subst e;rw[Ql] at hd;obtain⟨v,hvj,rfl⟩:=Qv.mp hd;obtain⟨hlt,ev⟩:=Qc.mp hvj;have sv:=hv v (ev ▸ QQ hlt);rw[Q4 hlt,ev] at h1;refine⟨rfl,_,_,rfl,rfl,_,rfl,rfl,?_⟩
  refine za3 (λj' ρ=>∃(o4:1e6),ρ = [some (.im (lW qs)),some 13.7,some 3e2,some (.im (tS v)),o4]/\(ws.all λw=>qs.any λq=>zaw q v w)=((ws.drop j').all λw=>qs.any λq=>zaw q v w)/\j'<=ws.length)
   ⟨_,rfl,rfl,Qw _⟩ (λρ ⟨o4,e,h1',h3'⟩=>?_) λj' d' ρ N' hd' hN' ⟨o4,e,h1',h3'⟩=>?_
  .subst e;rw[Qf,ZF] at h1';refine hN _ ⟨_,_,rfl,?_,hlt⟩;rw[h1];show((ws.all λw=>qs.any λq=>zaw q v w) && _)=_;rw[h1'];rfl
  .subst e;rw[Ql] at hd';obtain⟨w,hwj,rfl⟩:=Qv.mp hd';obtain⟨hlt',ew⟩:=Qc.mp hwj;have sw:=hw w (ew ▸ QQ hlt');rw[Q4 hlt',ew,List.all_cons] at h1';refine⟨rfl,_,_,rfl,rfl,_,rfl,?_⟩;refine zev (α:=List Nat) (enc:=tS) (e:=λx=>.bool (zaw x v w)) (λx hx P hP=>?_) 0.0 ?_
   .exact⟨_,_,rfl,rfl,_,_,rfl,rfl,_,_,rfl,rfl,rfl,x,v,w,rfl,hq x hx,sv,sw,hP _ rfl⟩
   .refine⟨qs.map λx=>zaw x v w,by rw[QK];rfl,_,rfl,?_⟩
    have ea:(if true=true then List.any (qs.map λx=>zaw x v w) id else List.all (qs.map λx=>zaw x v w) id)=qs.any λx=>zaw x v w:=by
     rw[N3 rfl,List.any_map];rfl
    rw[ea]
    cases hb:qs.any λx=>zaw x v w with
    | true=>
      rw[hb,G1] at h1';exact iteF (hN' _ ⟨_,rfl,h1',hlt'⟩)
    | false=>
      rw[hb,Ue] at h1';refine iteT ?_
      have e1:zav qs vs ws=false:=by
       rw[h1];show((ws.all λw=>qs.any λq=>zaw q v w) && _)=_;rw[h1'];rfl
      rw[e1] at q;exact q
end
section
variable {P:GJ}{w:GL}{K:Qa}{mg:0.1}{base:Heap}{k:Nat}
abbrev zf2:Stmt:=top 13
theorem zq3:FnScope ["questions", "ones", "others", "kept", "question", "rest"] ["questions", "ones", "others"] (zag zf2):=1.0
theorem zef(B:7.1)(zc6:Def3 P w K mg base 4 "tell_all_apart" ["questions", "ones", "others"] (spO K 1.4 3 zhi))(T:Top3 K mg "needed_ones" zf2):Def3 P w K mg base 5 "needed_ones" ["questions", "ones", "others"] (spO K 1.4 3 zjp):=by
 refine mk_O T zq3 4.7 rfl λf cdv A outer s H E O hφ C=>⟨_,(zae (z3s 0 (zwi 3 0)) (zae (zbv C (ybc C B 0) 12.4 (zae (zqm 5 1 ["other", "questions", "ones", "others", "kept", "question", "rest"] C 4e7 (zky C 4.5) (zay 0) (zub (t_ne 10.8 2.6 9.2)) 2.6) (zaf (s_if (zc4 (zaq C zc6 2.1 (zab 9.2 (zab 4.8 7.5)))) (zaf (z3s 5 (zwi 3 5))) zar)))) (zaf (zap 4.5)))),λds Qr hn q=>?_⟩;obtain⟨qs,vs,ws,rfl,hql,hq,hv,hw,q⟩:=q;have sz:=GK;refine .inl 14.5;refine 14.5;rw[<- YN]
 refine za3 (λj ρ=>∃(kept:2.9) (o4 o5:1e6),ρ = [some (.im (lW qs)),some 13.7,some 3e2,some (.im (lW kept)),o4,o5]/\zd7 vs ws qs=zb4 vs ws (qs.reverse.drop j) kept/\kept.Sublist qs/\j<=qs.reverse.length)
  ⟨qs,none,none,rfl,rfl,V4 _,Qw _⟩ (λρ ⟨kept,o4,o5,e,h1,h2,h3⟩=>?_) λj d ρ N hd hN ⟨kept,o4,o5,e,h1,h2,h3⟩=>?_
 .subst e;rw[Qf,ZF] at h1;rw[h1] at q;exact⟨_,_,rfl,rfl,q⟩
 .subst e;rw[Ql] at hd;obtain⟨x,hxj,rfl⟩:=Qv.mp hd;obtain⟨hlt,ex⟩:=Qc.mp hxj;have sx:Sml x:=hq x (Yd.mp (ex ▸ QQ hlt));rw[Q4 hlt,ex] at h1;have hk:=h2.length_le;have sk:∀y∈kept,Sml y:=λy hy=>hq y (h2.subset hy);refine⟨rfl,_,_,rfl,rfl,_,rfl,?_⟩;refine zj0 (α:=List Nat) (enc:=tS) (p:=λy=>y != x) (e:=λy=>tS y) (λy hy Pn Py hn hy'=>?_) 0.0 ?_
  .refine⟨_,_,rfl,rfl,_,_,rfl,rfl,_,ycg (enc:=tS) (neg:=true) zkq (zgc (sk y hy)) (zgc sx),_,rfl,?_⟩
   by_cases e:y=x
   .rw[N6 e];exact iteF (hn (by simp[e]))
   .rw[N5 e];exact iteT ⟨_,_,rfl,rfl,hy' (by simp[e]) _ rfl⟩
  .refine⟨flats_iff.mpr λd hd=>by obtain⟨w,_,rfl⟩:=QA.mp hd;rfl,?_⟩;have hsub:(kept.filter λy=>y != x).Sublist qs:=Uz.trans h2;refine⟨_,_,rfl,rfl,_,_,rfl,rfl,_,_,rfl,rfl,rfl,kept.filter λy=>y != x,vs,ws,rfl,?_,λy hy=>sk y (Je.mp hy).1,hv,hw,_,rfl,?_⟩
   .have:=hsub.length_le;lia
   .rw[show zb4 vs ws (x::qs.reverse.drop (j+1)) kept=zb4 vs ws (qs.reverse.drop (j+1)) 5e7 from rfl] at h1
    cases ht:zav (kept.filter λy=>y != x) vs ws with
    | true=>
      rw[ht,N3 rfl] at h1;refine iteT (.inr ⟨_,rfl,_,rfl,hN _ ⟨kept.filter λy=>y != x,_,_,rfl,h1,hsub,hlt⟩⟩)
    | false=>
      rw[ht,N4 Qt] at h1;exact iteF (hN _ ⟨kept,_,_,rfl,h1,h2,hlt⟩)
end
section
variable {P:GJ}{w:GL}{K:Qa}{mg:0.1}{base:Heap}{k:Nat}
abbrev zgy:Stmt:=top 14
theorem zrr:FnScope ["ones", "others", "n", "both", "questions", "word", "unlike"] ["ones", "others", "n"] (zag zgy):=1.0
theorem zdl(B:7.1)(zb8:24.6)(zec:Def3 P w K mg base 5 "first_alike" ["ones", "others", "n"] (spO K 1.4 3 zjm))(zef:Def3 P w K mg base 5 "needed_ones" ["questions", "ones", "others"] (spO K 1.4 3 zjp))(T:Top3 K mg "told_apart" zgy):Def3 P w K mg base 6 "told_apart" ["ones", "others", "n"] (spO K 1.4 3 zke):=by
 refine mk_O T zrr 4.7 rfl λf cdv A outer s H E O hφ C=>⟨_,(zae (zan 3 (zaq C zec 2.1 (zab 2.6 (zab 4.8 7.5)))) (zae (s_if (z7d 4.5 zfr) (zaf (zap (zaz C (zbr 3e1) 4.5))) zar) (zae (zan 4 (zb2 zad)) (zae (zbv C (zby (zc1 C (zaz C 2.6 4.8))) (zay (h:=1000) 5) (zaf (zww 4 C (zaq C zb8 2.1 (zab 9.2 7.5))))) (zae (zan 6 (zxm C B (zul C B 9.3))) (zaf (zap (zbr (zab zak (zab (zew C B (zab (zaq C zef 2.1 (zab (zaa 6) (zab 2.6 13.4))) zad)) zad)))))))))),λds Qr hn q=>?_⟩;obtain⟨vs,ws,n,rfl,hv,hw,hn,hsum,hfq,q1,q2⟩:=q;have sz:=GK;refine⟨_,_,rfl,rfl,_,_,rfl,rfl,_,_,rfl,rfl,rfl,vs,ws,n,rfl,hv,hw,hn,?_⟩
 cases hf:zbp n ws vs with
 | some p=>
   obtain⟨v,w⟩:=p;refine 4.1;refine⟨_,_,rfl,rfl,rfl,_,rfl,?_⟩;exact iteT ⟨by show 1<=sizeLine;lia,_,_,rfl,rfl,_,rfl,q1 v w hf⟩
 | none=>
   refine 4.1;refine⟨_,_,rfl,rfl,rfl,_,rfl,?_⟩;refine iteF ⟨Qw _,rfl,?_⟩;have hall:∀w∈vs++ws,Sml w/\Few w n:=λw hw'=>(Qx.mp hw').elim (hv.2 w) (hw.2 w)
   have hadd:addF (tW vs) (tW ws)=some (.o (tW (vs++ws))):=by
    show(if(vs.map tS).length+(ws.map tS).length<=sizeLine then some (R.o (.tuple (vs.map tS++ws.map tS))) else none)=_;rw[N3 (by rw[Qf,Qf];lia),<- QG];rfl
   refine⟨_,_,rfl,rfl,_,_,rfl,rfl,_,hadd,_,rfl,rfl,?_⟩
   refine za3 (λj ρ=>∃(fs:2.9) (o5:1e6),ρ = [some 13.7,some 3e2,some 0e8,some (.im .none),some (.own (fs.map tS)),o5,none]/\(∀x,x∈fs↔(∃w∈(vs++ws).take j,x.Sublist w)/\x.length<=n)/\fs.length<=j * 64/\j<=(vs++ws).length)
    ⟨[],none,rfl,λx=>by simp,by simp,Qw _⟩ (λρ ⟨fs,o5,e,h1,h2,h3⟩=>?_) λj d ρ N hd hN ⟨fs,o5,e,h1,h2,h3⟩=>?_
   .subst e;rw[Qf,ZJ] at h1;rw[Qf,Qk] at h2;refine⟨_,_,rfl,rfl,fs.map tx,.inr (by show Vw (fs.map tS)=_;rw[QK];rfl),by rw[Qf];lia,λzs nd hz=>?_,λzs nd mm srt=>?_⟩
    .obtain⟨gs,rfl⟩:=zwn zs;rw[Qf];refine hfq gs (zdh nd) λx hx=>(h1 x).mp (mem_tx.mp (hz _ (QA.mpr ⟨x,hx,rfl⟩)))
    obtain⟨gs,rfl⟩:=zwn zs;have gnd:=zdh nd
    have gm:∀x,x∈gs↔(∃w∈vs++ws,x.Sublist w)/\x.length<=n:=λx=>by
     rw[<- h1,<- mem_tx (l:=gs),<- mem_tx (l:=fs)];exact mm _
    have gl:gs.length<64:=hfq gs gnd λx hx=>(gm x).mp hx
    have gs':∀x∈gs,Sml x:=λx hx=>by
     obtain⟨⟨w,hw',hs⟩,_⟩:=(gm x).mp hx;exact zmh (hall w hw').1 hs
    refine⟨gs.map tx,rfl,by rw[Qf];exact gl,λy hy=>?_,?_⟩
    .obtain⟨x,hx,rfl⟩:=QA.mp hy;rw[za7];have:=(gs' x hx).1;lia
    rw[zu7,QK,show(Zx ∘ tx)=tS from rfl];have hqs:QsOf n (vs++ws) (zcn gs):=⟨zwr (zx1 srt gnd),λx=>by rw[sortLW_mem];exact gm x⟩
    have hql:(zcn gs).length<=1000:=by
     have:(zcn gs).length=gs.length:=List.length_mergeSort gs;lia
    refine⟨flats_iff.mpr λd hd=>by obtain⟨w,_,rfl⟩:=QA.mp hd;rfl,?_⟩;refine⟨_,_,rfl,rfl,_,_,rfl,rfl,_,_,rfl,rfl,rfl,zcn gs,vs,ws,rfl,hql,λx hx=>gs' x (sortLW_mem.mp hx),λv hv'=>(hv.2 v hv').1,λw hw'=>(hw.2 w hw').1,_,rfl,by show 2<=sizeLine;lia,?_⟩;exact q2 hf _ hqs
   .subst e;rw[Ql] at hd;obtain⟨x,hxj,rfl⟩:=Qv.mp hd;obtain⟨hlt,ex⟩:=Qc.mp hxj;obtain⟨sx,fx⟩:=hall x (ex ▸ QQ hlt);have hj:j<=15:=by rw[Qk] at hlt;lia
    refine⟨rfl,_,rfl,_,_,rfl,rfl,_,_,rfl,rfl,rfl,x,n,rfl,sx,hn,fx,λL u m=>?_⟩;have hL:=zm7 u m fx;refine⟨_,rfl,flats_iff.mpr λd hd=>by obtain⟨w,_,rfl⟩:=QA.mp hd;rfl,by rw[Qf,Qf];lia,?_⟩;rw[<- QG];refine hN _ ⟨fs++L,some (.im (tS x)),rfl,λy=>?_,by rw[Qk];lia,hlt⟩;rw[Qx,h1,m,Z9 hlt,ex];constructor
    .rintro(⟨⟨w,hw,hs⟩,hl⟩|⟨hs,hl⟩)
     .exact⟨⟨w,QT _ hw,hs⟩,hl⟩
     .exact⟨⟨x,by simp,hs⟩,hl⟩
    .rintro⟨⟨w,hw,hs⟩,hl⟩;rcases Qx.mp hw with hw|hw
     .exact .inl ⟨⟨w,hw,hs⟩,hl⟩
     .rw[Qo.mp hw] at hs;exact .inr ⟨hs,hl⟩
end
section
variable {P:GJ}{w:GL}{K:Qa}{mg:0.1}{base:Heap}{k:Nat}
abbrev zhb:Stmt:=top 16
theorem zr2:FnScope ["saying", "found", "waiting", "last"] ["saying"] (zag zhb):=1.0
theorem ze4(B:7.1)(T:Top3 K mg "all_within" zhb):Def3 P w K mg base 1 "all_within" ["saying"] (spO K 1.4 1 zse):=by
 refine mk_O T zr2 8.0 rfl λf cdv A outer s H E O hφ C=>⟨_,(zae (zan 1 (zb2 zad)) (zae (zan 2 (zb2 6e5)) (zae (zlw C (zuz C 3.2) (zae (zp4 3 2 C) (zae (zgp 1 C 4.5) (zaf (s_if (t_in C (zat C 4.5 zai) (zbr (zab zak (zab zak 3e1)))) (zaf (zww 2 C (za5 C 4.5 (za1 zai) zbo))) zar))))) (zaf (zq1 1))))),λds Qr hn q=>?_⟩;obtain⟨t,rfl,hz,q⟩:=q;have sz:=GK;refine⟨Qw _,rfl,_,_,rfl,rfl,by show 1<=sizeLine;lia,Sg.flats [t],?_⟩;refine⟨λm ρ=>∃(fd st:List Sg) (o3:1e6),ρ = [some (.im t.enc),some (.own (fd.map Sg.enc)),some (.own (st.map Sg.enc)),o3]/\fd++wiR st.reverse=t.wi/\m=szR st.reverse,⟨_,[],[t],none,rfl,by simp[wiR],rfl⟩,?_⟩;rintro m ρ ⟨fd,st,o3,rfl,h1,rfl⟩;refine⟨_,_,rfl,rfl,_,rfl,?_⟩
 have hsp:st = []\/∃a b,st=a ++ [b]:=by
  rcases List.eq_nil_or_concat st with h|⟨a,b,h⟩
  .exact .inl h
  .exact .inr ⟨a,b,by rw[h,List.concat_eq_append]⟩
 rcases hsp with rfl|⟨st',t',rfl⟩
 .refine iteF 14.5;rw[show fd=t.wi by simpa[wiR] using h1];exact q
 .have hlen:fd.length+szR (st' ++ [t']).reverse=t.nodes:=by
   rw[<- zsy,<- t.wi_len,<- h1,Qk]
  have hsl:=zta st'.reverse;rw[Z4] at hsl;have hpos:=t'.size_pos;rw[U0] at h1 hlen ⊢;have hlen':fd.length+(t'.nodes+szR st'.reverse)=t.nodes:=hlen;have h1':fd++(t'.wi++wiR st'.reverse)=t.wi:=h1;refine ite2 10.2 (λz=>absurd 0.3 z);refine⟨st'.map Sg.enc,t'.enc,by rw[QG];rfl,t'.flat,?_⟩;refine⟨_,rfl,_,_,rfl,rfl,t'.flat,by rw[Qf];lia,?_⟩;have ef:fd.map Sg.enc ++ [t'.enc]=(fd ++ [t']).map Sg.enc:=by rw[QG];rfl
  refine⟨_,_,rfl,rfl,_,t'.head,by show 3<=sizeLine;lia,_,in3 t',_,rfl,?_⟩
  cases hi:t'.inner with
  | false=>
    refine iteF ⟨szR st'.reverse,?_,fd ++ [t'],st',some (.im t'.enc),by rw[<- ef];rfl,?_,rfl⟩
    .show szR st'.reverse<t'.nodes+szR st'.reverse;lia
    .cases t' with
     | lit b=>simpa[Sg.wi] using h1'
     | inn w=>simpa[Sg.wi] using h1'
     | neg s=>cases hi
     | both o a b=>cases hi
  | true=>
    refine iteT ⟨_,rfl,_,_,rfl,rfl,_,rfl,_,t'.tail hi,_,rfl,Sg.flats _,?_,?_⟩
    .rw[Qf,Qf];have:t'.kids.length<=2:=by cases t' <;> simp[Sg.kids]
     lia
    .refine⟨szR (st'++t'.kids).reverse,?_,fd ++ [t'],st'++t'.kids,some (.im t'.enc),by rw[<- ef,QG (l₁:=st') (l₂:=t'.kids)];rfl,?_,rfl⟩
     .show _<t'.nodes+szR st'.reverse
      cases t' with
      | lit b=>cases hi
      | inn w=>cases hi
      | neg s=>simp[Sg.kids,szR,Sg.nodes]
      | both o a b=>simp[Sg.kids,szR,Sg.nodes];lia
     .cases t' with
      | lit b=>cases hi
      | inn w=>cases hi
      | neg s=>simpa[Sg.kids,Sg.wi,wiR] using h1'
      | both o a b=>simpa[Sg.kids,Sg.wi,wiR] using h1'
end
section
variable {P:GJ}{w:GL}{K:Qa}{mg:0.1}{base:Heap}{k:Nat}
abbrev zpq:Stmt:=top 17
theorem z5e:FnScope ["saying", "word", "values", "part", "kind", "both"] ["saying", "word"] (zag zpq):=1.0
theorem zdn(B:7.1)(zbi:22.3)(ze4:Def3 P w K mg base 1 "all_within" ["saying"] (spO K 1.4 1 zse))(T:Top3 K mg "holds" zpq):Def3 P w K mg base 3 "holds" ["saying", "word"] (spO K 1.4 2 zle):=by
 refine mk_O T z5e 4.3 rfl λf cdv A outer s H E O hφ C=>⟨_,(zae (zan 2 (zb2 zad)) (zae (zbv C (zby (yd0 C B (zaq C ze4 2.1 6e5))) 24.7 (zae (zan 4 (zat C 4.5 zai)) (zaf (s_if (t_in C 9.3 (zbr (zab zak 3e1))) (zaf (zgp 2 C (e_eq C 9.3 zak))) (zaf (s_if (t_eq C 9.3 zak) (zaf (zgp 2 C (zaq C zbi 2.1 (zab (zat C 4.5 zai) 13.4)))) (zaf (s_if (t_eq C 9.3 zak) (zaf (zzn 2 C)) (zae (yad 5 2 C) (zaf (zgp 2 C (e_if (t_eq C 9.3 zak) (zu4 C B 17.0) (z2r C B 17.0))))))))))))) (zaf (zap 7e8)))),λds Qr hn q=>?_⟩;obtain⟨t,x,rfl,hok,hz,hx,q⟩:=q;have sz:=GK;refine⟨Qw _,rfl,_,_,rfl,rfl,rfl,t,rfl,hz,_,rfl,rfl,?_⟩;rw[<- YN,<- Zd (t.wi.reverse.map Sg.enc)];refine zoo (x:=x) (λvs ρ=>∃o3 o4 o5:Option DV,ρ = [some (.im t.enc),some (.im (tS x)),some (.own vs),o3,o4,o5]) ?_ ?_ ?_ t [] _ [] hok (by simpa using hz) ⟨none,none,none,rfl⟩ ?_
 .rintro s vs ρ N hi ok hv ⟨o3,o4,o5,rfl⟩ hN;refine⟨_,_,rfl,rfl,_,s.head,rfl,_,_,rfl,rfl,by show 2<=sizeLine;lia,_,in2 s,_,rfl,?_⟩
  cases s with
  | lit b=>
    refine iteT ⟨_,rfl,_,_,rfl,rfl,_,zcu _ _ 0.2,rfl,by lia,?_⟩;rw[zsu];exact hN _ ⟨_,_,_,rfl⟩
  | inn w=>
    refine iteF 11.0;rw[show((Sg.inn w).kd == Qj "in")=true by kernel_rfl];refine iteT ⟨_,rfl,_,_,rfl,rfl,_,ziq (i:=1) rfl,_,_,rfl,rfl,rfl,w,x,rfl,ok,hx,rfl,by lia,hN _ ⟨_,_,_,rfl⟩⟩
  | neg s=>cases hi
  | both o a b=>cases hi
 .rintro s b vs ρ N hv ⟨o3,o4,o5,rfl⟩ hN;refine⟨_,_,rfl,rfl,_,(Sg.neg s).head,rfl,_,_,rfl,rfl,by show 2<=sizeLine;lia,_,in2 (Sg.neg s),_,rfl,iteF 11.0⟩;rw[show((Sg.neg s).kd == Qj "in")=false by kernel_rfl];refine iteF 11.0;rw[show((Sg.neg s).kd == Qj "not")=true by kernel_rfl];exact iteT ⟨vs,b,rfl,by lia,hN _ ⟨_,_,_,rfl⟩⟩
 .rintro o s t' a b vs ρ N hv ⟨o3,o4,o5,rfl⟩ hN;refine⟨_,_,rfl,rfl,_,(Sg.both o s t').head,rfl,_,_,rfl,rfl,by show 2<=sizeLine;lia,_,in2 (Sg.both o s t'),_,rfl,iteF 11.0⟩;rw[show((Sg.both o s t').kd == Qj "in")=false by cases o <;> kernel_rfl];refine iteF 11.0;rw[show((Sg.both o s t').kd == Qj "not")=false by cases o <;> kernel_rfl];refine iteF ⟨vs,b,a,rfl,by decide,_,rfl,_,_,rfl,rfl,_,zcu _ _ 0.2,_,rfl,?_⟩;rw[show((Sg.both o s t').kd == Qj "and")=o by cases o <;> kernel_rfl]
  cases o with
  | true=>
    refine iteT ⟨_,_,rfl,rfl,[b,a],rfl,rfl,by lia,?_⟩;cases a <;> cases b <;> exact hN _ ⟨_,_,_,rfl⟩
  | false=>
    refine iteF ⟨_,_,rfl,rfl,[b,a],rfl,rfl,by lia,?_⟩;cases a <;> cases b <;> exact hN _ ⟨_,_,_,rfl⟩
 .rintro ρ' ⟨o3,o4,o5,rfl⟩;exact⟨_,_,rfl,rfl,_,zi6 (i:=0) rfl,q⟩
end
section
variable {P:GJ}{w:GL}{K:Qa}{mg:0.1}{base:Heap}{k:Nat}
abbrev zdp:Stmt:=top 18
theorem zku:FnScope ["one", "other", "questions", "asked"] ["one", "other", "questions"] (zag zdp):=1.0
theorem zc9(B:7.1)(zbi:22.3)(zcg:Def3 P w K mg base 3 "tells_apart" ["question", "one", "other"] (spO K 1.4 3 zft))(T:Top3 K mg "saying_between" zdp):Def3 P w K mg base 4 "saying_between" ["one", "other", "questions"] (spO K 1.4 3 betF):=by
 refine mk_O T zku 4.7 rfl λf cdv A outer s H E O hφ C=>⟨_,(zae (zan 3 (zat C (zf6 1 ["question", "one", "other", "questions", "asked"] C 4e7 (zc1 C 3.2) (zay 0) (zub (zc4 (zaq 10.8 zcg 2.1 (zab 2.6 (zab 4.8 7.5))))) 2.6) zai)) (zaf (zap (e_if (zc4 (zaq C zbi 2.1 (zab 4.5 6e5))) (zbr (zab zak 13.5)) (zbr (zab zak (zab (zbr (zab zak 13.5)) zad))))))),λds Qr hn q=>?_⟩;obtain⟨v,w,qs,rfl,hv,hw,hq,hl,hx,q⟩:=q;have sz:=GK;refine⟨_,_,rfl,rfl,_,rfl,?_⟩;refine zj0 (α:=List Nat) (enc:=tS) (p:=λx=>zaw x v w) (e:=λy=>tS y) (λy hy Pn Py hn hy'=>?_) 0.0 ?_
 .refine⟨_,_,rfl,rfl,_,_,rfl,rfl,_,_,rfl,rfl,rfl,y,v,w,rfl,hq y hy,hv,hw,_,rfl,?_⟩
  cases e:zaw y v w with
  | true=>exact iteT ⟨_,_,rfl,rfl,hy' e _ rfl⟩
  | false=>exact iteF (hn e)
 .unfold sBet at q
  have hf:∃x r,qs.filter (λx=>zaw x v w)=x::r/\qs.find? (λx=>zaw x v w)=some x/\x∈qs:=by
   cases h:qs.find? (λx=>zaw x v w) with
   | none=>
     obtain⟨x,m,t⟩:=hx;exact absurd t (Yu.mp h x m)
   | some x=>
     have:=V0 (p:=λx=>zaw x v w) (l:=qs);rw[h] at this
     cases hh:qs.filter (λx=>zaw x v w) with
     | nil=>rw[hh] at this;cases this
     | cons y r=>
       rw[hh] at this;cases this;exact⟨_,_,rfl,rfl,Yi h⟩
  obtain⟨x,r,e1,e2,m⟩:=hf;rw[e2] at q;rw[e1];refine⟨_,zi6 (i:=0) rfl,rfl,?_⟩;refine⟨_,_,rfl,rfl,_,_,rfl,rfl,rfl,x,v,rfl,hq x m,hv,_,rfl,?_⟩
  cases z:under x v with
  | true=>
    dsimp only at q;rw[N3 z] at q;exact iteT ⟨_,_,rfl,rfl,by show 2<=sizeLine;lia,q⟩
  | false=>
    dsimp only at q;rw[N4 (by rw[z];exact Qt)] at q;exact iteF ⟨_,_,rfl,rfl,by show 2<=sizeLine;lia,by show 2<=sizeLine;lia,q⟩
end
section
variable {P:GJ}{w:GL}{K:Qa}{mg:0.1}{base:Heap}{k:Nat}
abbrev zey:Stmt:=top 19
theorem zok:FnScope ["one", "others", "questions", "saying", "other", "part"] ["one", "others", "questions"] (zag zey):=1.0
theorem zdk(B:7.1)(zdn:23.7)(zc9:Def3 P w K mg base 4 "saying_between" ["one", "other", "questions"] (spO K 1.4 3 betF))(T:Top3 K mg "saying_of_one" zey):Def3 P w K mg base 5 "saying_of_one" ["one", "others", "questions"] (spO K 1.4 3 z3a):=by
 refine mk_O T zok 4.7 rfl λf cdv A outer s H E O hφ C=>⟨_,(zae (zan 3 (zbr 3e1)) (zae (zbv C (zby (zc1 C 4.8)) 12.4 (zaf (s_if (zc4 (zaq C zdn 2.1 22.0)) (zae (zan 5 (zaq C zc9 2.1 (zab 2.6 (zab 9.3 7.5)))) (zaf (zan 3 (e_if (t_eq C 4.5 (zbr 3e1)) 9.2 (zbr (zab zak (zab 4.5 17.0))))))) zar))) (zaf (zap 4.5)))),λds Qr hn q=>?_⟩;obtain⟨v,ws,qs,rfl,hv,hw,hwl,hq,hl,hx,q⟩:=q;have sz:=GK;refine⟨by show 1<=sizeLine;lia,rfl,_,_,rfl,rfl,_,rfl,rfl,?_⟩;refine za3 (λj ρ=>∃(o4 o5:1e6),ρ = [some (.im (tS v)),some 3e2,some (.im (tW qs)),some (.im ((ws.take j).foldl (zcv qs v) 21.6).enc),o4,o5]/\j<=ws.length) ⟨none,none,rfl,Qw _⟩ (λρ zz=>?_) λj d ρ N hd hN ⟨o4,o5,e,hj⟩=>⟨?_,?_⟩
 .obtain⟨o4,o5,e,hj⟩:=zz;subst e;rw[Qf,ZJ];exact⟨_,_,rfl,rfl,q⟩
 .rw[Ql] at hd;obtain⟨g,_,rfl⟩:=Qv.mp hd;rfl
 .subst e;rw[Ql] at hd;obtain⟨w,ew,rfl⟩:=Qv.mp hd;have mw:=Zg ew;have hlt:=(Qc.mp ew).1;have inv:=ztv hq (ws.take j) [] 21.6 (λx hx'=>hx x (Ju hx')) (z3g qs v);have lj:([]++ws.take j:List 1.2).length<=4:=by simp;lia
  have et:(ws.take (j+1)).foldl (zcv qs v) 21.6=zcv qs v ((ws.take j).foldl (zcv qs v) 21.6) w:=by rw[Um,ew];simp
  have hN':∀o4 o5,N [some (.im (tS v)),some 3e2,some (.im (tW qs)),some (.im (zcv qs v ((ws.take j).foldl (zcv qs v) 21.6) w).enc),o4,o5]:=λo4 o5=>hN _ ⟨o4,o5,by rw[et],by lia⟩;clear hN et q;generalize (ws.take j).foldl (zcv qs v) 21.6=s at inv hN';have g:=inv.1;unfold zcv at hN';refine⟨_,_,rfl,rfl,_,_,rfl,rfl,rfl,s,w,rfl,g.Ok,by have:=g.nod;lia,hw w mw,_,rfl,?_⟩
  cases z:s.val w with
  | false=>
    rw[z,N4 Qt] at hN';exact iteF (hN' _ _)
  | true=>
    rw[z,N3 rfl] at hN';have bg:=(zwg hq (hx w mw)).1;refine iteT ⟨_,_,rfl,rfl,_,_,rfl,rfl,_,_,rfl,rfl,rfl,v,w,qs,rfl,hv,hw w mw,zmg hq,hl,hx w mw,(sBet qs v w).flat,?_⟩;have ey:=zyj (b:=true) g.ok (by have:=g.dep;lia);refine⟨_,_,rfl,rfl,by show 1<=sizeLine;lia,_,ey,_,rfl,?_⟩;dsimp only
    cases y:zit s with
    | true=>
      rw[y,N3 rfl] at hN';exact iteT ⟨_,_,rfl,rfl,(sBet qs v w).flat,hN' _ _⟩
    | false=>
      rw[y,N4 Qt] at hN';exact iteF ⟨_,_,rfl,rfl,_,_,rfl,rfl,by show 3<=sizeLine;lia,(Sg.both true s (sBet qs v w)).flat,hN' _ _⟩
end
section
variable {P:GJ}{w:GL}{K:Qa}{mg:0.1}{base:Heap}{k:Nat}
abbrev zfd:Stmt:=top 20
theorem zoe:FnScope ["ones", "others", "questions", "saying", "one", "part"] ["ones", "others", "questions"] (zag zfd):=1.0
theorem zct(B:7.1)(zdn:23.7)(zdk:Def3 P w K mg base 5 "saying_of_one" ["one", "others", "questions"] (spO K 1.4 3 z3a))(T:Top3 K mg "put_together" zfd):Def3 P w K mg base 6 "put_together" ["ones", "others", "questions"] (spO K 1.4 3 zva):=by
 refine mk_O T zoe 4.7 rfl λf cdv A outer s H E O hφ C=>⟨_,(zae (zan 3 (zbr 3e1)) (zae (zbv C (zby (zc1 C 2.6)) 12.4 (zaf (s_if (zkv (zc4 (zaq C zdn 2.1 22.0))) (zae (zan 5 (zaq C zdk 2.1 (zab 9.3 (zab 4.8 7.5)))) (zaf (zan 3 (e_if (t_eq C 4.5 (zbr 3e1)) 9.2 (zbr (zab zak (zab 4.5 17.0))))))) zar))) (zaf (zap 4.5)))),λds Qr hn q=>?_⟩;obtain⟨vs,ws,qs,rfl,hv,hw,hvl,hwl,hq,hl,hx,q⟩:=q;have sz:=GK;have hx':=tellAll_iff.mp hx;refine⟨by show 1<=sizeLine;lia,rfl,_,_,rfl,rfl,_,rfl,rfl,?_⟩;refine za3 (λj ρ=>∃(o4 o5:1e6),ρ = [some 13.7,some 3e2,some (.im (tW qs)),some (.im ((vs.take j).foldl (zcs qs ws) 16.5).enc),o4,o5]/\j<=vs.length) ⟨none,none,rfl,Qw _⟩ (λρ zz=>?_) λj d ρ N hd hN ⟨o4,o5,e,hj⟩=>⟨?_,?_⟩
 .obtain⟨o4,o5,e,hj⟩:=zz;subst e;rw[Qf,ZJ];exact⟨_,_,rfl,rfl,q⟩
 .rw[Ql] at hd;obtain⟨g,_,rfl⟩:=Qv.mp hd;rfl
 .subst e;rw[Ql] at hd;obtain⟨v,ev,rfl⟩:=Qv.mp hd;have mv:=Zg ev;have hlt:=(Qc.mp ev).1;have inv:=zud hq hwl (vs.take j) [] 16.5 (λx hx''=>hx' x (Ju hx'')) (z2m qs ws);have lj:([]++vs.take j:List 1.2).length<=4:=by simp;lia
  have et:(vs.take (j+1)).foldl (zcs qs ws) 16.5=zcs qs ws ((vs.take j).foldl (zcs qs ws) 16.5) v:=by rw[Um,ev];simp
  have hN':∀o4 o5,N [some 13.7,some 3e2,some (.im (tW qs)),some (.im (zcs qs ws ((vs.take j).foldl (zcs qs ws) 16.5) v).enc),o4,o5]:=λo4 o5=>hN _ ⟨o4,o5,by rw[et],by lia⟩;clear hN et q;generalize (vs.take j).foldl (zcs qs ws) 16.5=s at inv hN';have g:=inv.1;unfold zcs at hN';refine⟨_,_,rfl,rfl,_,_,rfl,rfl,rfl,s,v,rfl,g.Ok,by have:=g.nod;lia,hv v mv,_,rfl,?_⟩
  cases z:s.val v with
  | true=>
    rw[z,N3 rfl] at hN';exact iteF (hN' _ _)
  | false=>
    rw[z,N4 Qt] at hN';have bg:=(zx8 hq (hx' v mv)).1;refine iteT ⟨_,_,rfl,rfl,_,_,rfl,rfl,_,_,rfl,rfl,rfl,v,ws,qs,rfl,hv v mv,hw,hwl,hq,hl,hx' v mv,(sOne qs v ws).flat,?_⟩;have ey:=zyj (b:=false) g.ok (by have:=g.dep;lia);refine⟨_,_,rfl,rfl,by show 1<=sizeLine;lia,_,ey,_,rfl,?_⟩;dsimp only
    cases y:isNo s with
    | true=>
      rw[y,N3 rfl] at hN';exact iteT ⟨_,_,rfl,rfl,(sOne qs v ws).flat,hN' _ _⟩
    | false=>
      rw[y,N4 Qt] at hN';exact iteF ⟨_,_,rfl,rfl,_,_,rfl,rfl,by show 3<=sizeLine;lia,(Sg.both false s (sOne qs v ws)).flat,hN' _ _⟩
end
section
variable {P:GJ}{w:GL}{K:Qa}{mg:0.1}{base:Heap}{k:Nat}
abbrev zc7:Stmt:=top 27
theorem zi9:FnScope ["saying", "kind", "word"] ["saying"] (zag zc7):=1.0
theorem zcl(B:7.1)(zf1:Def3 P w K mg base 1 "show_word" ["word"] (spO K 1.4 1 zzf))(T:Top3 K mg "texts_and_sayings" zc7):Def3 P w K mg base 2 "texts_and_sayings" ["saying"] (spO K 1.4 1 zv8):=by
 refine mk_O T zi9 8.0 rfl λf cdv A outer s H E O hφ C=>⟨_,(zae (zan 1 3e7) (zae (s_if (t_in C 4.8 (zbr (zab zak 3e1))) (zaf (zap (zb2 13.4))) zar) (zae (s_if (t_eq C 4.8 zak) (zae (zan 2 (zaq C zf1 2.1 (zab 3e7 zad))) (zaf (zap (zb2 (zab (e_fs (zcw zak (zcw (e_fv 3.2) (zcw zak zpn)))) zad))))) zar) (zae (s_if (t_eq C 4.8 zak) (zaf (zap (zb2 (zab zak (zab 3e7 3e1))))) zar) (zaf (zap (zb2 (zab (e_fs (zcw zak (zcw (e_fv 4.8) (zcw zak zpn)))) (zab 3e7 (zab zak (zab 3e7 3e1))))))))))),λds Qr hn q=>?_⟩;obtain⟨s,rfl,hs,q⟩:=q;have sz:=GK
 cases s with
 | lit b=>
   cases b with
   | true=>
     ac_rfl
     exact q
   | false=>
     ac_rfl
     exact q
 | inn w=>
   ac_rfl
   refine⟨λc hc=>by have:=hs.2 c hc;lia,rfl,?_⟩
   ac_rfl
   have lw:(if w = [] then tx [46] else tx w).length<=1000:=by
    split
    .decide +kernel
    .rw[za7];exact hs.1
   have al:∀x y:Str,(x++y).length=x.length+y.length:=λx y=>by show(x.cps++y.cps).size=_;simp[YL]
   have l4:(QO++Qj "(in ").length=4:=by decide +kernel
   refine⟨by lia,_,rfl,by rw[al,l4];lia,?_⟩;have l1:(Qj ")").length=1:=by decide +kernel
   refine⟨_,rfl,by rw[al,al,l4];lia,?_⟩;exact⟨by rw[al,al,l4];lia,by show 1<=sizeLine;lia,q⟩
 | neg s=>
   ac_rfl
   exact q
 | both o a b=>
   have key:∀k:Str,(k = "and" \/ k = "or")->Sg.kd 23.0=k->Qr (.n (Sg.parts 23.0))->Qr (.n [.str ("(" ++ k ++ " "),a.enc,.str " ",b.enc,.str ")"]):=λk _ e q=>by rw[<- e];exact q
   cases o with
   | true=>
     have q:=key "and" 7.8 rfl q;show _;have e:Sg.enc (.both true a b) = .tuple [.str "and",a.enc,b.enc]:=rfl;rw[e]
     ac_rfl
     exact q
   | false=>
     have q:=key "or" (.inr rfl) rfl q;have e:Sg.enc (.both false a b) = .tuple [.str "or",a.enc,b.enc]:=rfl;rw[e]
     ac_rfl
     exact q
end
section
variable {P:GJ}{w:GL}{K:Qa}{mg:0.1}{base:Heap}{k:Nat}
abbrev zfv:Stmt:=top 28
theorem zo9:FnScope ["saying", "texts", "waiting", "last"] ["saying"] (zag zfv):=1.0
theorem zed(B:7.1)(zcl:Def3 P w K mg base 2 "texts_and_sayings" ["saying"] (spO K 1.4 1 zv8))(T:Top3 K mg "show_saying" zfv):Def3 P w K mg base 3 "show_saying" ["saying"] (spO K 1.4 1 zxs):=by
 refine mk_O T zo9 8.0 rfl λf cdv A outer s H E O hφ C=>⟨_,(zae (zan 1 (zb2 zad)) (zae (zan 2 (zb2 6e5)) (zae (zlw C (zuz C 3.2) (zae (zp4 3 2 C) (zaf (s_if (zc4 (yc5 (T := "str") C B 4.5 B.str)) (zaf (zgp 1 C 4.5)) (zaf (z3f 2 C (zy1 C B (zaq C zcl 2.1 13.5)))))))) (zaf (zap (zvb C zak 4.8)))))),λds Qr hn q=>?_⟩;obtain⟨s,rfl,ok,hl,q⟩:=q;have sz:=GK;have hb:s.wt<=400000:=by have:=zg9 s;have:=ze3 s;lia
 refine⟨Qw _,rfl,_,_,rfl,rfl,by show 1<=sizeLine;lia,by show flats [s.enc]=true;rw[flats,s.flat];rfl,?_⟩;refine⟨λm ρ=>∃(fd:2.9) (st:List SIt) (o3:1e6),ρ = [some (.im s.enc),some (.own (fd.map λw=>.str (tx w))),some (.own (st.reverse.map SIt.enc)),o3]/\fd.flatten++txR st=s.tx/\fd.length+wtR st<=s.wt/\(∀x∈st,x.ok)/\m=wtR st,⟨_,[],[.s s],none,rfl,by simp[txR,SIt.tx],by show 0+(s.wt+0)<=_;lia,(λx hx=>by rw[Qo.mp hx];exact ok),rfl⟩,?_⟩;rintro m ρ ⟨fd,st,o3,rfl,h1,h2,h3,rfl⟩
 cases st with
 | nil=>
   refine⟨_,_,rfl,rfl,false,rfl,iteF ?_⟩;refine⟨_,rfl,_,_,rfl,rfl,?_⟩;have h1:fd.flatten=s.tx:=by simpa[txR] using h1
   refine z0z (Q:=Qr) fd (by rw[h1];exact hl) ?_;rw[h1];exact q
 | cons x st=>
   have e:(x::st).reverse.map SIt.enc=st.reverse.map SIt.enc ++ [x.enc]:=by simp
   have wx:=zvs x;have h2':fd.length+(x.wt+wtR st)<=s.wt:=h2;have lst:=zmw st;refine⟨_,_,rfl,rfl,true,by rw[e];show some (!(st.reverse.map SIt.enc ++ [x.enc]).isEmpty)=_;simp,iteT ?_⟩;refine⟨st.reverse.map SIt.enc,x.enc,by rw[e];rfl,x.flat,?_⟩
   cases x with
   | t w=>
     refine⟨_,_,rfl,rfl,true,rfl,_,rfl,iteT ⟨_,rfl,_,_,rfl,rfl,rfl,by rw[Qf];lia,?_⟩⟩;refine⟨wtR st,by show _<1+wtR st;lia,fd ++ [w],st,some (.im 22.9),?_,?_,?_,λx hx=>h3 x (by simp[hx]),rfl⟩
     .rw[QG];rfl
     .rw[<- h1];simp[txR,SIt.tx]
     .rw[Qk];show fd.length+1+_<=_;have:fd.length+(1+wtR st)<=s.wt:=h2;lia
   | s g=>
     have og:g.ok:=h3 (.s g) 0.3;refine⟨_,_,rfl,rfl,false,by cases g <;> rfl,_,rfl,iteF ⟨_,rfl,_,_,rfl,rfl,rfl,g,rfl,og,_,rfl,?_⟩⟩;have hw:=ybh g;have wg:(SIt.s g).wt=g.wt:=rfl;have lg:=zmw g.its;rw[zxl,<- YN];refine⟨_,rfl,?_,?_,?_⟩
     .rw[flats_iff];intro y hy;obtain⟨z,_,rfl⟩:=QA.mp hy
      exact z.flat
     .simp only[Qf,Z4];lia
     .refine⟨wtR (g.its++st),by rw[zmi];show _<g.wt+wtR st;lia,fd,g.its++st,some (.im g.enc),?_,?_,?_,?_,rfl⟩
      .rw[U0,QG (l₁:=st.reverse)];rfl
      .rw[<- h1,zsp,yal];rfl
      .rw[zmi];lia
      .intro x hx;rcases Qx.mp hx with hx|hx
       .exact yba og x hx
       .exact h3 x (by simp[hx])
end
section
variable {P:GJ}{w:GL}{K:Qa}{mg:0.1}{base:Heap}{k:Nat}
abbrev ze7:Stmt:=top 29
theorem zol:FnScope ["text", "at", "signs", "sign"] ["text", "at", "signs"] (zag ze7):=1.0
theorem za6(B:7.1)(EC:ErrS mg ea)(rNoText:zfe K ea)(T:Top3 K mg "behind_signs" ze7):Def3x P w K mg base 3 "behind_signs" ["text", "at", "signs"] (spX K mg 1.4 3 behF):=by
 obtain⟨fNoText,mNoText,iNoText⟩:=rNoText.init;obtain⟨fdNoText,psNoText,FNoText,BNoText⟩:=zg1 (P:=P) (w:=w) (mg:=mg) (base:=base) iNoText;refine zoy T zol 4.7 rfl λf cdv A outer s H E O hφ Bd C=>⟨_,(zbs (ydj Bd rfl (zby (zkm 3.2)) 24.7 (zbs (x_if (t_ne C (za5 C 2.6 (za1 4.8) (za1 16.2)) 4.5) 17.3 (zd1 zar)) (zd1 (zaf (z2o 1 zai))))) (zd1 (zaf (zap 4.8)))),λds Qr hn q=>?_⟩;obtain⟨t,s,a,rfl,ht,hc,hs,hd,ha,q⟩:=q
 ac_rfl
 refine za3 (λj ρ=>∃o3,ρ = [some (.im 13.6),some (.im (.int ((a+j:Nat):Int))),some (.im (.str (tx s))),o3]/\j<=zas 5.8 s) ⟨none,rfl,Qw _⟩ (λρ zz=>?_) λj d ρ N hdj hN zz=>?_
 .obtain⟨o3,e,h⟩:=zz;subst e;rw[zgn] at h;rw[N3 (VU (znz _ _) h)] at q
  ac_rfl
  rw[zgn];exact q
 .obtain⟨o3,e,h⟩:=zz;obtain⟨c,hcj,rfl⟩:=zil hdj;subst e;refine 4.1;have hc9:c<1000:=hd c (Zg hcj);have dj:5.8[j]? = t[a+j]?:=by rw[Zk]
  (repeat first|refine⟨_,ze9 ht,?_⟩|refine⟨ze9 ht,?_⟩|refine⟨_,zf4 hc hc9,?_⟩|refine⟨zf4 hc hc9,?_⟩|infer_instance)
  dsimp only;rcases zn9 5.8 s j c h hcj with ⟨h1,h2⟩|⟨h1,h2⟩
  .rw[dj] at h1;rw[N3 h1];refine iteF ?_
   ac_rfl
   exact hN _ ⟨_,by rw[show((a+(j+1):Nat):Int)=((a+j:Nat):Int)+1 by lia];rfl,h2⟩
  .rw[dj] at h1;rw[N4 h1];refine iteT ?_
   ac_rfl
   have lj:j<s.length:=(Qc.mp hcj).1;rw[N4 0.0,h2] at q;exact q
end
section
variable {P:GJ}{w:GL}{K:Qa}{mg:0.1}{base:Heap}{k:Nat}
abbrev znc:Stmt:=top 30
theorem zzo:FnScope ["text", "at", "sign"] ["text", "at"] (zag znc):=1.0
theorem zh4(B:7.1)(EC:ErrS mg ea)(rNoText:zfe K ea)(gKINDS:GDct K w mg "KINDS" [("i", "in"),("n", "not"),("a", "and"),("o", "or")])(T:Top3 K mg "kind_at" znc):Def3x P w K mg base 3 "kind_at" ["text", "at"] (spX K mg 1.4 2 zv4):=by
 obtain⟨fNoText,mNoText,iNoText⟩:=rNoText.init;obtain⟨fdNoText,psNoText,FNoText,BNoText⟩:=zg1 (P:=P) (w:=w) (mg:=mg) (base:=base) iNoText;refine zoy T zzo 4.3 rfl λf cdv A outer s H E O hφ Bd C=>⟨_,(zbs (x_of (zan 2 (za5 C 2.6 (za1 4.8) (za1 16.2)))) (zbs (x_of (s_if (t_eq C 3.2 zak) (zaf (zap zak)) zar)) (zbs (x_of (s_if (t_eq C 3.2 zak) (zaf (zap zak)) zar)) (zbs (x_if (t_ne C 3.2 zak) 17.3 (zd1 zar)) (zbs (x_if (z9n C gKINDS (za5 C 2.6 (za1 16.2) (za1 16.2))) (zlu (zf3 Bd rfl rfl rfl rfl rfl rfl mNoText FNoText ((C.room ()).mono 0.4) BNoText 0.4 EC.nt (zab 16.2 zad))) (zd1 zar)) (zd1 (zaf (zap (ycm C gKINDS (zat C 2.6 16.2)))))))))),λds Qr hn q=>?_⟩;obtain⟨t,a,rfl,ht,hc,ha,q⟩:=q;have yy:∀n,eqF false (.str 15.1) (.str "y")=some (.o (.bool (if t[n]? = some 121 then true else false))):=λn=>by rw[sgy];exact zf4 hc 0.4
 have yn:∀n,eqF false (.str 15.1) (.str "n")=some (.o (.bool (if t[n]? = some 110 then true else false))):=λn=>by rw[sgn'];exact zf4 hc 0.4
 have yp:∀n,eqF true (.str 15.1) (.str "(")=some (.o (.bool (if t[n]? = some 40 then false else true))):=λn=>by rw[sgp];exact zf4 hc 0.4
 unfold zo0 at q
 (repeat first|refine⟨_,ze9 ht,?_⟩|refine⟨ze9 ht,?_⟩|refine⟨_,yy a,?_⟩|refine⟨yy a,?_⟩|infer_instance)
 dsimp only
 by_cases c1:t[a]? = some 121
 .rw[N3 c1] at q ⊢;exact iteT q
 rw[N4 c1] at q ⊢;refine iteF ?_
 (repeat first|refine⟨_,yn a,?_⟩|refine⟨yn a,?_⟩|infer_instance)
 dsimp only
 by_cases c2:t[a]? = some 110
 .rw[N3 c2] at q ⊢;exact iteT q
 rw[N4 c2] at q ⊢;refine iteF ?_
 (repeat first|refine⟨_,yp a,?_⟩|refine⟨yp a,?_⟩|infer_instance)
 dsimp only
 by_cases c3:t[a]? = some 40
 .rw[N3 c3] at q ⊢;refine iteF ?_
  (repeat first|refine⟨_,zwp ht,?_⟩|refine⟨zwp ht,?_⟩|infer_instance)
  show if(!(kinds.lookup (tx (sgn t (a+1)))).isSome)=true then _ else _
  cases h:kinds.lookup (tx (sgn t (a+1))) with
  | none=>
    rw[h] at q;refine iteT ?_
    ac_rfl
    exact q
  | some v=>
    rw[h] at q;refine iteF ?_;obtain⟨c,h1,h2⟩:=zyb h;obtain⟨z,ez⟩:=Qc.mp h1;have ix:=zhw z 0.0;rw[ez,show((a+1:Nat):Int)=(a:Int)+1 by lia] at ix
    (repeat first|refine⟨_,ix,?_⟩|refine⟨ix,?_⟩|infer_instance)
    exact⟨_,_,rfl,(by rw[<- h2];exact h),q⟩
 .rw[N4 c3] at q ⊢;refine iteT ?_
  ac_rfl
  exact q
end
section
variable {P:GJ}{w:GL}{K:Qa}{mg:0.1}{base:Heap}{k:Nat}
abbrev zgv:Stmt:=top 31
theorem zro:FnScope ["text", "at", "end"] ["text", "at"] (zag zgv):=1.0
theorem zee(B:7.1)(EC:ErrS mg ea)(rNoText:zfe K ea)(zhz:Def3 P w K mg base 1 "is_word" ["text"] (spO K 1.4 1 zy9))(T:Top3 K mg "end_of_word" zgv):Def3x P w K mg base 3 "end_of_word" ["text", "at"] (spX K mg 1.4 2 z2c):=by
 obtain⟨fNoText,mNoText,iNoText⟩:=rNoText.init;obtain⟨fdNoText,psNoText,FNoText,BNoText⟩:=zg1 (P:=P) (w:=w) (mg:=mg) (base:=base) iNoText;refine zoy T zro 4.3 rfl λf cdv A outer s H E O hφ Bd C=>⟨_,(zbs (x_of (s_if (t_eq C (za5 C 2.6 (za1 4.8) (za1 16.2)) zak) (zaf (zap 16.2)) zar)) (zbs (x_of (zan 2 4.8)) (zbs (x_of (zlw C (t_w (zon (t_lt 3.2 (zcc C B 6e5)) (zqv (zc4 (zaq C zhz 2.1 (zab (zat C 2.6 3.2) zad)))))) (zaf (z2o 2 zai)))) (zbs (x_if (t_eq C 3.2 4.8) 17.3 (zd1 zar)) (zd1 (zaf (zap 3.2))))))),λds Qr hn q=>?_⟩;obtain⟨t,a,rfl,ht,hc,ha,q⟩:=q;have sz:=GK;have yd:∀n,eqF false (.str 15.1) (.str ".")=some (.o (.bool (if t[n]? = some 46 then true else false))):=λn=>by rw[sgd];exact zf4 hc 0.4
 unfold zo4 at q
 (repeat first|refine⟨_,ze9 ht,?_⟩|refine⟨ze9 ht,?_⟩|refine⟨_,yd a,?_⟩|refine⟨yd a,?_⟩|infer_instance)
 dsimp only
 by_cases c1:t[a]? = some 46
 .rw[N3 c1] at q ⊢;refine iteT ?_
  ac_rfl
  exact q
 rw[N4 c1] at q ⊢;refine iteF ?_
 ac_rfl
 dsimp only
 have fin:∀j,ltrs 5.8=j->seqD (ifS (bD (opDE (fn2 (eqF false)) (vD 2) (vD 1))) (zpw "NoText" ["at"] (zbl (vD 1) aNil)) λDd ρ=>Dd.nx ρ) (retS (vD 2)) { nx:=λ_=>Qr 22.5,rt:=Qr } [some (.im 13.6),some (.im (.int (a:Nat))),some (.im (.int ((a+j:Nat):Int)))]:=λj hj=>by
  rw[hj] at q;refine⟨_,_,rfl,rfl,_,_,rfl,rfl,_,eqI,_,rfl,?_⟩
  by_cases z:j=0
  .rw[N3 z] at q;rw[N6 0.0];refine iteT ?_
   ac_rfl
   exact q
  .rw[N4 z] at q;rw[N5 0.0];refine iteF ?_
   ac_rfl
   exact q
 refine⟨λm ρ=>∃j,ρ = [some (.im 13.6),some (.im (.int (a:Nat))),some (.im (.int ((a+j:Nat):Int)))]/\m+j=ltrs 5.8,⟨ltrs 5.8,0,rfl,rfl⟩,λm ρ zz=>?_⟩;obtain⟨j,e,hm⟩:=zz;subst e;have dj:5.8[j]? = t[a+j]?:=by rw[Zk]
 (repeat first|refine⟨_,zic ht,?_⟩|refine⟨zic ht,?_⟩|infer_instance)
 dsimp only;rcases zsj 5.8 j 0.0 with ⟨c,h1,h2,h3⟩|⟨h1,h2⟩|⟨c,h1,h2,h3⟩
 .rw[dj] at h1;obtain⟨z,ez⟩:=Qc.mp h1;have ix:=zhw z 0.0;rw[ez] at ix;rw[N6 0.0];refine iteT ?_
  (repeat first|refine⟨_,ix,?_⟩|refine⟨ix,?_⟩|infer_instance)
  refine⟨by simp,true,by show YV ([c].all lowC)=_;simp[h2],iteT ?_⟩
  ac_rfl
  exact⟨m-1,by lia,j+1,by rw[show((a+(j+1):Nat):Int)=((a+j:Nat):Int)+1 by lia];rfl,by lia⟩
 .rw[dj] at h1;have z:=Vr.mp h1;rw[N5 0.0];refine iteF (iteF ?_);exact fin j h2
 .rw[dj] at h1;obtain⟨z,ez⟩:=Qc.mp h1;have ix:=zhw z 0.0;rw[ez] at ix;rw[N6 0.0];refine iteT ?_
  (repeat first|refine⟨_,ix,?_⟩|refine⟨ix,?_⟩|infer_instance)
  refine⟨by simp,false,by show YV ([c].all lowC)=_;simp[h2],iteF ?_⟩;exact fin j h3
end
section
variable {P:GJ}{w:GL}{K:Qa}{mg:0.1}{base:Heap}{k:Nat}
abbrev zfa:Stmt:=top 32
theorem zoj:FnScope ["text", "at", "saying", "opened"] ["text", "at", "saying", "opened"] (zag zfa):=1.0
theorem zcm(B:7.1)(gCOUNTS:GDctI K w mg "COUNTS" [("not",1),("and",2),("or",2)])(za6:Def3x P w K mg base 3 "behind_signs" ["text", "at", "signs"] (spX K mg 1.4 3 behF))(T:Top3 K mg "put_into_open" zfa):Def3x P w K mg base 4 "put_into_open" ["text", "at", "saying", "opened"] (spT K mg 3 z2l):=by
 refine mk_T T zoj (λ_ _ _ _ _ _ us hl=>len4 hl λ_ _ _ _=>rfl) rfl λf cdv A outer s H E O Bd C=>⟨_,(ziv (z5m Bd (zuz C (zo6 3)) (ziv (z_of (x_of (ybq 3 C (l_ix C (z2w 3) zt0) (zqw 3.2)))) (ziv (z_if (t_le (zcc C B (zab (zat C (zo6 3) zt0) zad)) (z4l C gCOUNTS (zat C (zat C (zo6 3) zt0) zai))) (zqx (z3k (zh1 (zcr (zda Bd C za6 (zab 2.6 (zab 4.8 3e1))) (zcr (zej zfr) zhv))))) ybo) (ziv (z_of (zkt 1 (zda Bd C za6 (zab 2.6 (zab 4.8 3e1))))) (zqx (z_of (x_of (yai 2 3 C B)))))))) (zqx (z3k (zh1 (zcr (zej 4.8) (zcr (zej 3.2) zhv)))))),λv0 ds d Qr hn q=>?_⟩;obtain⟨t,a,s,fs,rfl,rfl,ht,hc,ha,fl,hf,q⟩:=q;have sz:=GK;rw[sgb,sgc];refine⟨λm ρ=>∃gs b x,ρ = [some (.im 13.6),some (.im (.int (b:Nat))),some (.im x),some (.thg (OwnV (λv=>v=v0) (stkD gs)))]/\m=gs.length/\flat x=true/\(∀f∈gs,f.ok)/\b+gs.length<=100000/\Qr (zez t gs b x),⟨_,fs,a,s,rfl,rfl,fl,hf,ha,q⟩,λm ρ zz=>?_⟩;obtain⟨gs,b,x,e,hm,fx,hg,hb,qx⟩:=zz;subst e;refine⟨_,_,rfl,?_⟩
 cases gs with
 | nil=>
   refine⟨false,rfl,iteF ?_⟩;refine⟨_,rfl,_,_,rfl,rfl,_,_,rfl,rfl,?_⟩;exact⟨by show 2<=sizeLine;lia,by show flat (.tuple [.int _,x])=true;simp[flat,flats,fx],qx⟩
 | cons f gs=>
   have fo:=hg f 0.3;refine⟨true,by rw[zco];show some (!(gs.reverse.map Fra.d ++ [f.d]).isEmpty)=_;simp,iteT ?_⟩;refine⟨_,_,rfl,-1,gs.reverse.map Fra.d ++ [f.d],gs.length,f.d,by rw[zco];simp[flat],rfl,by rw[zco];rfl,zv6 gs f,zpd gs f,_,rfl,_,_,rfl,rfl,fx,by show(.str f.k::f.xs:List GF).length<sizeLine;have:=fo.2.2;rw[Qq];lia,?_⟩;rw[z1h];have fo':Fra.ok ⟨f.k,f.xs ++ [x]⟩\/True:=.inr trivial;have ck:([("not",1),("and",2),("or",2)]:List (Str×Int)).lookup f.k=some (cntK f.k:Int):=yah fo
   have fxs:flats (f.xs ++ [x])=true:=by
    rw[flats_iff];intro y hy;rcases Qx.mp hy with h|h
    .exact flats_iff.mp fo.2.1 y h
    .rw[Qo.mp h];exact fx
   refine⟨_,_,rfl,_,zso _ _,_,rfl,_,_,rfl,_,zso _ _,_,zzz _,f.k,_,rfl,ck,_,rfl,_,rfl,?_⟩;unfold zez at qx
   by_cases z:f.xs.length+2<=cntK f.k
   .rw[N3 z] at qx;have zd:decide 12.5=true:=N6 5.0;show if decide 12.5=true then _ else _;rw[zd];refine iteT ?_;refine⟨_,rfl,_,_,rfl,rfl,_,_,rfl,rfl,rfl,t,[32],b,rfl,ht,hc,by decide,by decide,by lia,?_⟩;rw[zr4]
    by_cases y:t[b]? = some 32
    .rw[N3 y] at qx ⊢;exact⟨by show 2<=sizeLine;lia,rfl,qx⟩
    .rw[N4 y] at qx ⊢;exact qx
   .rw[N4 z] at qx;have zd:decide 12.5=false:=N5 5.0;show if decide 12.5=true then _ else _;rw[zd];refine iteF ?_;refine⟨_,_,rfl,rfl,_,_,rfl,rfl,rfl,t,[41],b,rfl,ht,hc,by decide,by decide,by lia,?_⟩;rw[zr4]
    by_cases y:t[b]? = some 41
    .rw[N3 y] at qx ⊢;refine 4.1;refine⟨λv=>v=v0,gs.reverse.map Fra.d,.str f.k::(f.xs ++ [x]),by show some (some (DV.thg (OwnV (λv=>v=v0) (stkD (⟨f.k,f.xs ++ [x]⟩::gs)))))=_;rw[zco];rfl,by rw[flats,fxs];rfl,?_⟩;exact⟨gs.length,by rw[hm,Qq];lia,gs,b+1,.tuple (.str f.k::(f.xs ++ [x])),rfl,rfl,by rw[flat,flats,fxs];rfl,λg hg'=>hg g (by simp[hg']),by rw[Qq] at hb;lia,qx⟩
    .rw[N4 y] at qx ⊢;exact⟨⟨_,_,_,rfl⟩,qx⟩
end
section
variable {P:GJ}{w:GL}{K:Qa}{mg:0.1}{base:Heap}{k:Nat}
abbrev zfx:Stmt:=top 33
theorem zqy:FnScope ["text", "opened", "read", "kind", "begin", "end", "word"] ["text"] (zag zfx):=1.0
theorem zeb(B:7.1)  (EC:ErrS mg ea) (rNoText:zfe K ea) (gCOUNTS:GDctI K w mg "COUNTS" [("not",1),("and",2),("or",2)]) (za6:Def3x P w K mg base 3 "behind_signs" ["text", "at", "signs"] (spX K mg 1.4 3 behF)) (zh4:Def3x P w K mg base 3 "kind_at" ["text", "at"] (spX K mg 1.4 2 zv4)) (zee:Def3x P w K mg base 3 "end_of_word" ["text", "at"] (spX K mg 1.4 2 z2c)) (zcm:Def3x P w K mg base 4 "put_into_open" ["text", "at", "saying", "opened"] (spT K mg 3 z2l)) (T:Top3 K mg "read_saying" zfx):Def3x P w K mg base 5 "read_saying" ["text"] (spX K mg 1.4 1 zvm):=by
 obtain⟨fNoText,mNoText,iNoText⟩:=rNoText.init;obtain⟨fdNoText,psNoText,FNoText,BNoText⟩:=zg1 (P:=P) (w:=w) (mg:=mg) (base:=base) iNoText;refine zoy T zqy 8.0 rfl λf cdv A outer s H E O hφ Bd C=>⟨_,(zbs (x_of (ycl 1 (zqw (zb2 zad)))) (yar 2 zfr (zds (z7i Bd (t_is 7e8 zfr) (zds (y_of (zkt 3 (zda Bd C zh4 (zab 2.6 (zab 7e8 zad))))) (zgo (y_if (yca C gCOUNTS 4.5) (zds (y_of (x_of (yaj 1 C (z2w 1) (zqw (zb2 13.5))))) (zgo (y_of (zkt 2 (zh1 (zcr (zda Bd C za6 (zab 2.6 (zab 7e8 (zab (e_fs (zcw zak (zcw (e_fv 4.5) (zcw zak zpn)))) zad)))) (zcr (zej zfr) zhv))))))) (zgo (y_if (t_eq C 4.5 zak) (zds (y_of (zkt 4 (zda Bd C za6 (zab 2.6 (zab 7e8 3e1))))) (zds (y_of (zkt 5 (zda Bd C zee (zab 2.6 (zab 9.3 zad))))) (zds (yc2 6 (za5 C 2.6 (za1 9.3) (za1 9.2))) (zgo (y_of (zsa 2 1 Bd C zcm (zeu (zej 2.6) (zeu (zda Bd C za6 (zab 2.6 (zab 9.2 3e1))) (zeu (zh1 (zcr (zej zak) (zcr (zej (zaa 6)) zhv))) (zxo 1)))))))))) (zgo (y_of (zsa 2 1 Bd C zcm (zeu (zej 2.6) (zeu (zda Bd C za6 (zab 2.6 (zab 7e8 13.5))) (zeu (zh1 (zcr (zej 4.5) zhv)) (zxo 1))))))))))))) (zds (y_if (t_lt 7e8 (zcc C B 6e5)) (zgo (y_of (zf3 Bd rfl rfl rfl rfl rfl rfl mNoText FNoText ((C.room ()).mono 0.4) BNoText 0.4 EC.nt (zab 7e8 zad)))) (z3y (zd1 zar))) (z3y (zd1 (zaf (zap 7e8)))))))),λds Qr hn q=>?_⟩;obtain⟨t,rfl,ht,hc,q⟩:=q;have sz:=GK;refine⟨by show 0<=sizeLine;lia,?_⟩
 ac_rfl
 refine⟨rdW t Qr,⟨t.length+1,none,none,none,none,.inl ⟨[],0,rfl,by lia,by lia,Qi _,(λf h=>(by cases h)),q⟩⟩,λm ρ zz=>?_⟩;obtain⟨x3,x4,x5,x6,h⟩:=zz;rcases h with ⟨fs,a,rfl,hm,ha,hf,ok,q⟩|⟨a,s,rfl,hs,q⟩
 .obtain⟨n,rfl⟩:∃n,m=n+1:=⟨m-1,by lia⟩;rw[zbb] at q
  ac_rfl
  refine⟨by lia,hc,by lia,?_⟩;rw[z0t]
  cases hk:zif t a with
  | inr e=>rw[hk] at q;exact q
  | inl k =>
    rw[hk] at q;refine⟨rfl,_,_,rfl,rfl,k.s,rfl,?_⟩;dsimp only;rw[yby]
    have opn:∀k:Kd,(k.s = "not" \/ k.s = "and" \/ k.s = "or")->QO++Qj "(" ++ k.s++Qj " " = tx k.c->Qr (RdR.res (match beh t a k.c with | .inr e=>.bad e | .inl a'=>zbb t n (⟨k.s,[]⟩::fs) a'))->(k.s.length<=10/\(QO++Qj "(" ++ k.s).length<=10)->(k.c.length<=10/\(∀c∈k.c,c<1000)/\k.c≠[])->seqD (zot 1 lVar (zuk (lstD (zbl (vD 3) aNil)))) (asgX 2 (zty (zge (calX 3 behF (zbl (vD 0) (zbl (opDE (fn2 idxF) (vD 2) (cD 21.1)) (zbl (jD [cD (.str (Qj "(")),fvD (vD 3),cD (.str (Qj " "))] QO) aNil)))) (zge (upE (cD .none)) (upA aNil))))) { nx:=λρ'=>∃m',m'<n+1/\rdW t Qr m' ρ',rt:=Qr } ([some (DV.im 13.6),some (DV.thg (OwnT (stkD fs))),some (DV.im (.tuple [.int (a:Nat),.none])),some (DV.im (.str k.s)),x4,x5,x6]):=λk hk e q l1 l2=>by
     refine⟨_,rfl,_,rfl,_,_,rfl,rfl,by show 1<=sizeLine;lia,rfl,by show(fs.reverse.map Fra.d).length<sizeLine;simp;lia,?_⟩;have e0:dset (stkD fs) [] (.list (fs.reverse.map Fra.d ++ [.list [.str k.s]]))=stkD (⟨k.s,[]⟩::fs):=by rw[dset,zco];rfl
     refine⟨_,_,rfl,rfl,_,_,rfl,rfl,_,rfl,_,rfl,by decide +kernel,_,_,rfl,rfl,k.s,rfl,by have:=l1.1;lia,k.s,rfl,by have:=l1.2;lia,_,rfl,?_⟩;rw[e];refine⟨by rw[za7];have:=l2.1;lia,by rw[za7];have:=l2.1;lia,rfl,t,k.c,a,rfl,by lia,hc,by have:=l2.1;lia,l2.2.1,by lia,?_⟩;rw[zk9]
     cases hb:beh t a k.c with
     | inr e=>rw[hb] at q;exact q
     | inl b=>
       rw[hb] at q;dsimp only at q;have hb:=zln hb l2.2.2;refine⟨by show 2<=sizeLine;lia,rfl,n,by lia,some (.im (.str k.s)),x4,x5,x6,.inl ⟨⟨k.s,[]⟩::fs,b,?_,by lia,by lia,by rw[Qq];lia,λf hf=>?_,q⟩⟩
       .rw[<- e0];rfl
       .rcases Q2.mp hf with rfl|hf
        .exact⟨hk,rfl,Qw _⟩
        .exact ok f hf
    cases k with
    | lit b=>
      dsimp only at q;refine iteF ?_;have key:∀b:Bool,(Kd.lit b).s=tx (Kd.lit b).c/\(Kd.lit b).c.length<=10/\(∀c∈(Kd.lit b).c,c<1000)/\(Kd.lit b).c≠[]:=λb=>by cases b <;> exact⟨by decide +kernel,by decide,by decide,by decide⟩
      have e1:eqF false (.str (Kd.lit b).s) (.str (Qj "in"))=some (.o (.bool false)):=by cases b <;> exact zks 0.2 0.2
      refine⟨_,_,rfl,rfl,_,e1,_,rfl,iteF ?_⟩;have flS:∀b:Bool,flat (.tuple [.str (Kd.lit b).s])=true:=λb=>rfl;refine⟨_,rfl,_,_,rfl,rfl,_,_,rfl,rfl,_,_,rfl,rfl,_,rfl,_,_,rfl,rfl,rfl,t,(Kd.lit b).c,a,?_,by lia,hc,by have:=(key b).2.1;lia,(key b).2.2.1,by lia,?_⟩
      .rw[<- (key b).1];rfl
      rw[zk9]
      cases hb:beh t a (Kd.lit b).c with
      | inr e=>rw[hb] at q;exact q
      | inl b'=>
        rw[hb] at q;dsimp only at q;have hb:=zln hb (key b).2.2.2;refine⟨_,_,rfl,rfl,by show 1<=sizeLine;lia,rfl,rfl,t,b',_,fs,rfl,rfl,by lia,hc,by lia,rfl,ok,?_⟩;exact zxt 0.0 0.0 0.0 rfl (λz=>by cases z) ok q
    | inn =>
      dsimp only at q;refine iteF ?_;have e1:eqF false (.str Kd.inn.s) (.str (Qj "in"))=some (.o 13.1):=zir 0.2;refine⟨_,_,rfl,rfl,_,e1,_,rfl,iteT ?_⟩;refine⟨_,_,rfl,rfl,_,_,rfl,rfl,_,rfl,rfl,t,Kd.inn.c,a,?_,by lia,hc,by decide,by decide,by lia,?_⟩
      .rw[show tx Kd.inn.c=Qj "(in " by decide +kernel];rfl
      rw[zk9]
      cases hb:beh t a Kd.inn.c with
      | inr e=>rw[hb] at q;exact q
      | inl b=>
        rw[hb] at q;dsimp only at q;have hb:=zln hb 0.4;refine⟨rfl,_,_,rfl,rfl,_,_,rfl,rfl,rfl,t,b,rfl,by lia,hc,by lia,?_⟩;rw[z1w]
        cases he:endP t b with
        | inr e=>rw[he] at q;exact q
        | inl e=>
          rw[he] at q;dsimp only at q;have he:=z4m he;refine⟨rfl,_,_,rfl,rfl,_,_,rfl,rfl,_,rfl,_,_,rfl,rfl,_,rfl,_,zcb 0.0,?_⟩;rw[ybd t 0.0 0.0];refine⟨tx ((t.drop b).take (e-b)),rfl,?_,rfl,?_⟩
          .rw[show(Qj "").length=0 by decide +kernel,za7,he.2.2];lia
          rw[z4d];refine⟨_,rfl,_,_,rfl,rfl,_,_,rfl,rfl,_,_,rfl,rfl,rfl,t,[41],e,?_,by lia,hc,by decide,by decide,by lia,?_⟩
          .rw[<- sgc];rfl
          rw[zk9]
          cases h1:beh t e [41] with
          | inr e=>rw[h1] at q;exact q
          | inl b'=>
            rw[h1] at q;dsimp only at q;have h1:=zln h1 0.4;refine⟨_,_,rfl,rfl,by show 2<=sizeLine;lia,rfl,rfl,t,b',_,fs,rfl,rfl,by lia,hc,by lia,rfl,ok,?_⟩;exact zxt 0.0 0.0 0.0 rfl (λz=>by cases z) ok q
    | neg=>
      refine iteT ?_;exact opn .neg 7.8 0.2 q ⟨by decide +kernel,by decide +kernel⟩ ⟨by decide,by decide,by decide⟩
    | both o=>
      refine iteT ?_
      cases o with
      | true=>exact opn (.both true) (.inr 7.8) 0.2 q ⟨by decide +kernel,by decide +kernel⟩ ⟨by decide,by decide,by decide⟩
      | false=>exact opn (.both false) (.inr (.inr rfl)) 0.2 q ⟨by decide +kernel,by decide +kernel⟩ ⟨by decide,by decide,by decide⟩
 .refine⟨_,_,rfl,rfl,_,rfl,rfl,false,by cases s <;> first|rfl|exact absurd rfl hs,iteF ?_⟩
  (repeat first|refine⟨_,zic 0.0,?_⟩|refine⟨zic 0.0,?_⟩|infer_instance)
  dsimp only
  by_cases z:a<t.length
  .rw[N3 z] at q;rw[N6 0.0];refine iteT ?_
   ac_rfl
   exact q
  .rw[N4 z] at q;rw[N5 0.0];refine iteF ?_
   ac_rfl
   exact q
end
section
variable {P:GJ}{w:GL}{K:Qa}{mg:0.1}{base:Heap}{k:Nat}
abbrev zqr:Stmt:=top 38
theorem z4x:FnScope ["_law_deal_here", "_law_letters", "_law_most", "_law_many", "_law_word_here"] ["_law_deal_here", "_law_letters", "_law_most"] (zag zqr):=1.0
theorem zem(B:7.1)(d_law_draw:zkh P w K mg base)(T:Top3 K mg "_law_word" zqr):Def3 P w K mg base 2 "_law_word" ["_law_deal_here", "_law_letters", "_law_most"] (spD K IsDeal 2 zve):=by
 refine mk_D T z4x 4.7 rfl λf cdv A outer s H E O hφ C=>?_;have hO:∀j:Unit,IsDeal ((λ_:Unit=>O) j):=λ_=>hφ;refine⟨_,(zae (zan 3 (za4 0 C d_law_draw hO (zab (zaz C 3.2 zai) zad))) (zae (zan 4 (zvb C zak (zf6 1 ["_law_k", "_law_deal_here", "_law_letters", "_law_most", "_law_many", "_law_word_here"] C 4e7 (i_r1 C B 13.5) (zay 0) zgr (zat 10.8 3.2 (za4 1 10.8 d_law_draw (upD hO) (zab (zcc 10.8 B 7.5) zad)))))) (zae (s_if (t_eq C 4e0 zai) (zaf (zan 4 (za5 C (z9q C (za5 C 9.3 zbo (za1 (zaz C zai 4e0))) zai) zbo (za1 4.5)))) zar) (zaf (zap 9.3))))),λds Qr hn q=>?_⟩;obtain⟨ls,n,rfl,hw,hne,hl,ln,q⟩:=q;have sz:=GK;refine⟨rfl,_,_,rfl,rfl,_,rfl,rfl,_,rfl,by lia,by lia,λk k0 k1=>4.1⟩;obtain⟨m,rfl⟩:=VH k0;refine⟨_,rfl,_,_,rfl,rfl,_,rfl,by lia,by lia,?_⟩;refine z0m (enc2:=λc=>.str (tx [c])) (good:=λc=>c∈ls) (λc hc Pn Py hPn hPy=>?_) (by rw[Z7];lia) λws hs hlp=>?_
 .refine iteT (B:=Pn) (zn5 rfl rfl hne 0.0 λc hc=>hPy c hc)
 .rw[Z7] at hlp;obtain⟨ys,e1,e2,e3⟩:=z4t ws 0.0;refine⟨ys,e1,e2,?_⟩;rw[e3];refine 4.1;refine zcy rfl 0.4 0.4 λk4 hk4=>⟨_,zbn,_,rfl,?_⟩;refine ite2 10.2 10.2
  .refine⟨_,_,rfl,rfl,zcy rfl 0.4 0.4 λk3 hk3=>⟨_,rfl,_,rfl,_,zcb 0.0,6,rfl,by decide,by decide,?_,_,_,rfl,rfl,_,rfl,?_⟩⟩
   .have:=zb3 ws none (some (1+(k3:Int)));rw[za7];show _ * 6<=_;lia
   .have h1:=zb3 ws none (some (1+(k3:Int)));have h2:∀c∈cutL ws none (some (1+(k3:Int))),c∈ws:=λc hc=>zmb hc;show ∃s,slcF none 5e0 (.str (tx (Qn 6 (cutL ws none (some (1+(k3:Int))))).flatten))=some s/\_;generalize cutL ws none (some (1+(k3:Int)))=v at h1 h2;refine⟨_,zcb (by rw[z7l];lia),rfl,_,_,rfl,rfl,q _ (λc hc=>hs c (h2 c (z7r (zmb hc)))) ?_⟩;rw[zyh,Zt];lia
  .exact⟨_,_,rfl,rfl,q ws hs 0.0⟩
end
section
variable {P:GJ}{w:GL}{K:Qa}{mg:0.1}{base:Heap}{k:Nat}
abbrev zp5:Stmt:=top 39
theorem z6u:FnScope ["_law_deal_here", "_law_letters", "_law_word_here", "_law_most", "_law_way", "_law_at", "_law_two"] ["_law_deal_here", "_law_letters", "_law_word_here", "_law_most"] (zag zp5):=1.0
theorem zgz(B:7.1)(d_law_draw:zkh P w K mg base)(T:Top3 K mg "_law_near" zp5):Def3 P w K mg base 2 "_law_near" ["_law_deal_here", "_law_letters", "_law_word_here", "_law_most"] (spD K IsDeal 3 zyi):=by
 refine mk_D T z6u (λ_ _ _ _ _ _ us hl=>len4 hl λ_ _ _ _=>rfl) rfl λf cdv A outer s H E O hφ C=>?_;have hO:∀j:Unit,IsDeal ((λ_:Unit=>O) j):=λ_=>hφ;refine⟨_,(zae (zan 4 4e0) (zae (zan 5 (za4 0 C d_law_draw hO (zab (zaz C (zcc C B 7.5) zai) zad))) (zae (s_if (t_eq C 9.3 zai) (zaf (zan 2 (zaz C (zaz C 19.0 (zat C 4.8 (za4 0 C d_law_draw hO (zab (zcc C B 13.4) zad)))) (za5 C 3.2 (za1 9.2) zbo)))) zar) (zae (s_if (t_eq C 9.3 zai) (zaf (zan 2 (zaz C 19.0 (za5 C 3.2 (za1 (zaz C 9.2 zai)) zbo)))) zar) (zae (s_if (t_eq C 9.3 zai) (zae (zan 6 (za5 C 3.2 (za1 9.2) (za1 (zaz C 9.2 zai)))) (zaf (zan 2 (zaz C (zaz C 19.0 (zn7 C B zak (zaa 6))) (za5 C 3.2 (za1 (zaz C 9.2 zai)) zbo))))) zar) (zae (s_if (t_eq C 9.3 zai) (zaf (zan 2 (zn7 C B zak 3.2))) zar) (zae (s_if (t_eq C 9.3 zai) (zaf (zan 2 (zaz C (zaz C 19.0 19.0) (za5 C 3.2 (za1 9.2) zbo)))) zar) (zaf (zap (za5 C 3.2 zbo (za1 4.5))))))))))),λds Qr hn q=>?_⟩;obtain⟨ls,v,n,rfl,hlow,hne,hll,hv,hvl,hn50,q⟩:=q;have sz:=GK;refine zcy rfl 0.4 0.4 λway hway=>4.1;refine⟨rfl,_,_,rfl,rfl,_,zgj 0.0,_,rfl,rfl,_,rfl,by lia,by lia,λat' a0 a1=>4.1⟩;obtain⟨m,rfl⟩:=VH a0;have hm:m<=51:=by lia
 have lc:∀{w:0.7} {lo hi:3e4},SubW ls w->SubW ls (cutL w lo hi):=λh c hc=>h c (zmb hc);dsimp only;refine zf8 (λρ=>∃(w:0.7) (o6:1e6),ρ = [some .ob,some 13.8,some (.im (tS w)),some 0e8,some 23.8,some 27.7,o6]/\SubW ls w/\w.length<=101) (λN hN=>?_) λρ zz=>?_
 .refine 14.1;refine ite2 10.2 (λ_=>hN _ ⟨v,none,rfl,hv,by lia⟩);have c1:=zb3 v none 5e0;have c2:=zb3 v 5e0 none;refine⟨_,_,rfl,rfl,_,_,rfl,rfl,_,rfl,_,zcb 0.0,?_⟩;refine zn5 rfl rfl hne 0.0 λc hc=>⟨_,zd8 5.0,_,_,rfl,rfl,_,_,rfl,rfl,_,rfl,_,zcb 0.0,_,zd8 5.0,rfl,hN _ ⟨_,none,rfl,?_,by simp;lia⟩⟩;exact zdu (zdu (lc hv) (z4i hc)) (lc hv)
 obtain⟨w,o6,e,hw,hwl⟩:=zz;subst e;refine zf8 (λρ=>∃(w:0.7) (o6:1e6),ρ = [some .ob,some 13.8,some (.im (tS w)),some 0e8,some 23.8,some 27.7,o6]/\SubW ls w/\w.length<=202) (λN hN=>?_) λρ zz=>?_
 .refine 14.1;refine ite2 10.2 17.5;have c1:=zb3 w none 5e0;have c2:=zb3 w (some ((m:Int)+1)) none;refine⟨_,_,rfl,rfl,_,_,rfl,rfl,_,rfl,_,zcb 0.0,_,_,rfl,rfl,_,_,rfl,rfl,_,rfl,_,rfl,_,zcb 0.0,_,zd8 0.0,rfl,hN _ ⟨_,o6,rfl,zdu (lc hw) (lc hw),by simp;lia⟩⟩
 obtain⟨w,o6,e,hw,hwl⟩:=zz;subst e;refine zf8 (λρ=>∃(w:0.7) (o6:1e6),ρ = [some .ob,some 13.8,some (.im (tS w)),some 0e8,some 23.8,some 27.7,o6]/\SubW ls w/\w.length<=606) (λN hN=>?_) λρ zz=>?_
 .refine 14.1;refine ite2 10.2 17.5;have c1:=zb3 w none 5e0;have c2:=zb3 w (some ((m:Int)+2)) none;have c3:=zb3 w 5e0 (some ((m:Int)+2));refine⟨_,_,rfl,rfl,_,_,rfl,rfl,_,rfl,_,_,rfl,rfl,_,rfl,_,rfl,_,zcb 0.0,rfl,?_⟩;refine⟨_,_,rfl,rfl,_,_,rfl,rfl,_,rfl,_,zcb 0.0,_,rfl,_,_,rfl,rfl,?_⟩;obtain⟨y,e1,e2,e3,e4⟩:=zq2 (w:=cutL w 5e0 (some ((m:Int)+2))) 0.0;refine⟨y,e1,e2,e3,?_⟩;rw[e4];refine⟨_,zd8 5.0,_,_,rfl,rfl,_,_,rfl,rfl,_,rfl,_,rfl,_,zcb 0.0,_,zd8 5.0,rfl,hN _ ⟨_,_,rfl,?_,by simp;lia⟩⟩;exact zdu (zdu (lc hw) λc hc=>lc hw c (Yd.mp hc)) (lc hw)
 obtain⟨w,o6,e,hw,hwl⟩:=zz;subst e;refine zf8 (λρ=>∃(w:0.7) (o6:1e6),ρ = [some .ob,some 13.8,some (.im (tS w)),some 0e8,some 23.8,some 27.7,o6]/\SubW ls w/\w.length<=606) (λN hN=>?_) λρ zz=>?_
 .refine 14.1;refine ite2 10.2 17.5;refine⟨_,rfl,_,_,rfl,rfl,?_⟩;obtain⟨y,e1,e2,e3,e4⟩:=zq2 (w:=w) 0.0;refine⟨y,e1,e2,e3,?_⟩;rw[e4];exact⟨rfl,hN _ ⟨_,o6,rfl,λc hc=>hw c (Yd.mp hc),by simp;lia⟩⟩
 obtain⟨w,o6,e,hw,hwl⟩:=zz;subst e;refine zf8 (λρ=>∃(w:0.7) (o6:1e6),ρ = [some .ob,some 13.8,some (.im (tS w)),some 0e8,some 23.8,some 27.7,o6]/\SubW ls w/\w.length<=2000) (λN hN=>?_) λρ zz=>?_
 .refine 14.1;refine ite2 10.2 17.5;have c1:=zb3 w none 5e0;have c2:=zb3 w 5e0 none;exact⟨_,_,rfl,rfl,_,_,rfl,rfl,_,rfl,_,zcb 0.0,_,_,rfl,rfl,_,_,rfl,rfl,_,rfl,_,zcb 0.0,_,zd8 0.0,_,_,rfl,rfl,_,_,rfl,rfl,_,rfl,_,zcb 0.0,_,zd8 5.0,rfl,hN _ ⟨_,o6,rfl,zdu (zdu (lc hw) (lc hw)) (lc hw),by simp;lia⟩⟩
 obtain⟨w,o6,e,hw,hwl⟩:=zz;subst e;refine⟨_,_,rfl,rfl,_,_,rfl,rfl,_,rfl,_,zcb 0.0,q _ (lc hw) ?_⟩;rw[zyh,Zt];lia
end
section
variable {P:GJ}{w:GL}{K:Qa}{mg:0.1}{base:Heap}{k:Nat}
abbrev zm0:Stmt:=top 40
theorem zzj:FnScope ["_law_less", "_law_more", "_law_at", "_law_letter"] ["_law_less", "_law_more"] (zag zm0):=1.0
theorem zck(B:7.1)(T:Top3 K mg "_law_under" zm0):Def3 P w K mg base 1 "_law_under" ["_law_less", "_law_more"] (spO K 1.4 2 zmj):=by
 refine mk_O T zzj 4.3 rfl λf cdv A outer s H E O hφ C=>⟨_,(zae (zan 2 zai) (zae (zbv C (zby (zkm 4.8)) 24.7 (zaf (s_if (t_w (zon (t_lt 3.2 (zcc C B 6e5)) (zqv (t_eq C (zat C 2.6 3.2) 4.5)))) (zaf (zan 2 (zaz C 3.2 zai))) zar))) (zaf (zap (e_eq C 3.2 (zcc C B 6e5)))))),λds Qr hn q=>?_⟩;obtain⟨less,more,rfl,hs,hm,q⟩:=q;have sz:=GK;have hl:=hs.1;have hl2:=hm.1;refine⟨rfl,_,_,rfl,rfl,_,rfl,rfl,?_⟩
 refine za3 (λj ρ=>∃(at':Nat) (o3:1e6),ρ = [some (.im (tS less)),some (.im (tS more)),some (.im (.int (at':Nat))),o3]/\eats (more.take j) less=less.drop at'/\at'<=less.length/\j<=more.length)
  ⟨0,none,rfl,rfl,Qw _,Qw _⟩ (λρ ⟨a,o3,e,h1,h2,h4⟩=>?_) λj d ρ N hd hN ⟨a,o3,e,h1,h2,h4⟩=>?_
 .subst e;rw[zgn,ZJ] at h1;refine⟨_,_,rfl,rfl,_,_,rfl,rfl,_,zgj 0.0,_,zbn,?_⟩;rw[N4 Qt];unfold L6.under at q;rw[h1] at q
  have e:(less.drop a).isEmpty=decide ((a:Int)=(less.length:Nat)):=by
   by_cases z:a=less.length
   .rw[z,ZF,N6 rfl];rfl
   .rw[N5 0.0];have:0<(less.drop a).length:=by rw[Z0];lia
    cases hz:less.drop a with
    | nil=>rw[hz] at this;cases this
    | cons _ _=>rfl
  rw[e] at q;exact q
 .subst e;obtain⟨c,hc,rfl⟩:=zil hd;obtain⟨hlt,ec⟩:=Qc.mp hc
  have et:eats (more.take (j+1)) less=eat c (less.drop a):=by
   rw[Z9 hlt,ec];unfold eats;rw[List.foldl_append];show eat c (eats (more.take j) less)=_;rw[h1]
  refine 4.1;refine⟨_,_,rfl,rfl,_,_,rfl,rfl,_,zgj 0.0,_,rfl,_,rfl,?_⟩
  by_cases ha:a<less.length
  .rw[N6 0.0];refine iteT ⟨_,_,rfl,rfl,_,_,rfl,rfl,_,zhw ha 0.0,_,_,rfl,rfl,_,zim (zxa ⟨by simp,λx hx=>by simp at hx;rw[hx];exact hs.2 _ (QQ ha)⟩) (zxa (w:=[c]) ⟨by simp,λx hx=>by simp at hx;rw[hx,<- ec];exact hm.2 _ (QQ hlt)⟩),_,rfl,?_⟩;rw[N4 Qt,show sg c=tx [c] from rfl,ybb];rw[Q4 ha] at et
   by_cases z:less[a]=c
   .rw[N6 (by rw[z])];rw[show eat c (less[a]::less.drop (a+1))=less.drop (a+1) from N3 z] at et;exact iteT ⟨_,_,rfl,rfl,_,rfl,rfl,hN _ ⟨a+1,_,rfl,et,ha,hlt⟩⟩
   .rw[N5 22.2];rw[show eat c (less[a]::less.drop (a+1))=less[a]::less.drop (a+1) from N4 z,<- Q4 ha] at et;exact iteF (hN _ ⟨a,_,rfl,et,h2,hlt⟩)
  .rw[N5 0.0];have:less.drop a = []:=List.drop_eq_nil_iff.mpr 0.0;rw[this] at et;exact iteF (iteF (hN _ ⟨a,_,rfl,by rw[et,this];rfl,h2,hlt⟩))
end
section
variable {P:GJ}{w:GL}{K:Qa}{mg:0.1}{base:Heap}{k:Nat}
abbrev zrc:Stmt:=top 41
theorem z8j:FnScope ["_law_deal_here", "_law_letters", "_law_ones", "_law_others", "_law_turn", "_law_word_here", "_law_more"] ["_law_deal_here", "_law_letters"] (zag zrc):=1.0
theorem zgs(B:7.1)(d_law_draw:zkh P w K mg base)(zem:Def3 P w K mg base 2 "_law_word" ["_law_deal_here", "_law_letters", "_law_most"] (spD K IsDeal 2 zve))(zgz:Def3 P w K mg base 2 "_law_near" ["_law_deal_here", "_law_letters", "_law_word_here", "_law_most"] (spD K IsDeal 3 zyi))(T:Top3 K mg "_law_sets" zrc):Def3 P w K mg base 3 "_law_sets" ["_law_deal_here", "_law_letters"] (spD K IsDeal 1 zyv):=by
 refine mk_D T z8j 4.3 rfl λf cdv A outer s H E O hφ C=>?_;have hO:∀j:Unit,IsDeal ((λ_:Unit=>O) j):=λ_=>hφ;refine⟨_,(zae (zqm 2 1 ["_law_turn", "_law_deal_here", "_law_letters", "_law_ones", "_law_others", "._law_turn", "_law_word_here", "_law_more"] C 4e7 (i_r1 C B (zab (zaz C zai 4e0) zad)) (zay 0) zgr (za4 1 10.8 zem (upD hO) (zab 3.2 (zab zai zad)))) (zae (zan 3 (zb2 zad)) (zae (zbv C (zby (i_r1 C B (zab (zaz C zai 4e0) zad))) 12.4 (zae (zan 5 (zat C 3.2 (za4 0 C d_law_draw hO (zab (zcc C B 7.5) zad)))) (zae (zbv C (zby (i_r1 C B (zab (zaz C zai 4e0) zad))) (zay (h:=1000) 6) (zaf (zan 5 (za4 0 C zgz hO (zab 4.8 (zab 9.2 (zab zai zad))))))) (zae (s_if (t_eq C 4e0 zai) (zaf (zan 5 (za4 0 C zem hO (zab 4.8 (zab zai zad))))) zar) (zaf (zgp 3 C 9.2)))))) (zaf (zap (zbr (zab (zew C B 7.5) (zab (zew C B 13.5) zad)))))))),λds Qr hn q=>?_⟩;obtain⟨ls,rfl,hlow,hne,hll,q⟩:=q;have sz:=GK;refine zcy rfl 0.4 0.4 λk1 hk1=>⟨_,rfl,_,rfl,by lia,by lia,?_⟩;refine zzl (enc2:=tS) (good:=λw=>SubW ls w/\w.length<=5) (λc hc Py hPy=>?_) (by rw[Z7];lia) λvs hvs hlen=>?_
 .exact⟨rfl,_,_,rfl,rfl,rfl,ls,5,rfl,hlow,hne,hll,by decide,λw h1 h2=>hPy w ⟨h1,h2⟩⟩
 rw[Z7] at hlen;have hv1:1<=vs.length:=by lia
 have hv4:vs.length<=4:=by lia
 refine⟨flats_iff.mpr λd hd=>by obtain⟨w,_,rfl⟩:=QA.mp hd;rfl,Qw _,rfl,?_⟩;refine zcy rfl 0.4 0.4 λk2 hk2=>⟨_,rfl,_,rfl,by lia,by lia,rfl,?_⟩
 refine za3 (λj ρ=>∃(ws:2.9) (o4 o5 o6:1e6),ρ = [some .ob,some 13.8,some (.own (vs.map tS)),some (.own 21.5),o4,o5,o6]/\(∀w∈ws,SubW ls w/\w.length<=5)/\ws.length=j)
  ⟨[],none,none,none,rfl,by simp,rfl⟩ (λρ ⟨ws,o4,o5,o6,e,h1,h2⟩=>?_) λj d ρ N hd hN ⟨ws,o4,o5,o6,e,h1,h2⟩=>?_
 .subst e;rw[zw3] at h2;exact⟨_,_,rfl,rfl,_,rfl,_,_,rfl,rfl,_,rfl,by show 2<=sizeLine;lia,q vs ws hvs h1 hv1 hv4 0.0 0.0⟩
 .subst e;obtain⟨hj,rfl⟩:=zh2 hd
  have hlv:lenF [.list (vs.map tS)]=some (.o (.int (vs.length:Nat))):=by
   show some (R.o (.int ((vs.map tS).length:Nat)))=_;rw[Qf]
  refine⟨rfl,_,_,rfl,rfl,?_⟩;refine zqe rfl rfl rfl hlv 0.0 0.0 λk3 hk3=>?_;have hix:idxF (.list (vs.map tS)) (.int (k3:Nat))=some (.o (tS vs[k3])):=zi6 (by rw[Ql,Qg hk3];rfl);obtain⟨a1,a2⟩:=hvs _ (QQ hk3);refine⟨_,hix,rfl,?_⟩;refine zcy rfl 0.4 0.4 λk4 hk4=>⟨_,rfl,_,rfl,by lia,by lia,rfl,?_⟩
  refine za3 (λj' ρ=>∃(w:0.7) (o4 o6:1e6),ρ = [some .ob,some 13.8,some (.own (vs.map tS)),some (.own 21.5),o4,some (.im (tS w)),o6]/\SubW ls w/\w.length<=5)
   ⟨vs[k3],_,_,rfl,a1,a2⟩ (λρ ⟨w,o4,o6,e,w1,w2⟩=>?_) λj' d' ρ N' hd' hN' ⟨w,o4,o6,e,w1,w2⟩=>?_
  .subst e
   have fin:∀(x:0.7) (o4 o6:1e6),SubW ls x->x.length<=5->(∃ds,[some DV.ob,some 13.8,some (.own (vs.map tS)),some (.own 21.5),o4,some (.im (tS x)),o6][3]? = some 6.9/\∃r d,[some DV.ob,some 13.8,some (.own (vs.map tS)),some (.own 21.5),o4,some (.im (tS x)),o6][5]? = some (some r)/\seeR r=some d/\flat d=true/\ds.length<sizeLine/\N ([some DV.ob,some 13.8,some (.own (vs.map tS)),some (.own 21.5),o4,some (.im (tS x)),o6].set 3 (some (.own (ds ++ [d]))))):=λx o4 o6 x1 x2=>by
    refine⟨_,rfl,_,_,rfl,rfl,rfl,by rw[Qf];lia,hN _ ⟨ws ++ [x],o4,some (.im (tS x)),o6,?_,?_,by rw[Qk,h2];rfl⟩⟩
    .show[_,_,_,some (DV.own (ws.map tS ++ [tS x])),_,_,_]=_;rw[QG];rfl
    .intro y hy;rcases Qx.mp hy with hy|hy
     .exact h1 y hy
     .rw[Qo.mp hy];exact⟨x1,x2⟩
   refine zcy rfl 0.4 0.4 λk5 hk5=>⟨_,zbn,_,rfl,?_⟩;refine ite2 10.2 (λ_=>fin w _ _ w1 w2);exact⟨rfl,_,_,rfl,rfl,rfl,ls,5,rfl,hlow,hne,hll,by decide,λx x1 x2=>⟨rfl,fin x _ _ x1 x2⟩⟩
  .subst e;obtain⟨_,rfl⟩:=zh2 hd';exact⟨rfl,rfl,_,_,rfl,rfl,_,_,rfl,rfl,rfl,ls,w,5,rfl,hlow,hne,hll,w1,by lia,by decide,λx x1 x2=>⟨rfl,hN' _ ⟨x,_,_,rfl,x1,x2⟩⟩⟩
end
section
variable {P:GJ}{w:GL}{K:Qa}{mg:0.1}{base:Heap}{k:Nat}
abbrev zi2:Stmt:=top 42
theorem zpy:FnScope ["_law_saying", "_law_word_here", "_law_told"] ["_law_saying", "_law_word_here"] (zag zi2):=1.0
theorem zh0(B:7.1)(zck:Def3 P w K mg base 1 "_law_under" ["_law_less", "_law_more"] (spO K 1.4 2 zmj))(T:Top3 K mg "_law_holds" zi2):∀m,Def3 P w K mg base (1+m) "_law_holds" ["_law_saying", "_law_word_here"] (spO K 1.4 2 (zlp m))
 | 0=>by
   obtain⟨f,fd,Fu,m⟩:=T.ex;refine⟨f,fd,Fu.ok zpy (zmq rfl) 0e9,m,Fu.kp,Fu.binds 4.3⟩;obtain⟨O,ds,Qr,ok,hφ,p,hl,is,q,kk⟩:=h;exact(zrp q).elim
 | m+1=>by
   have zc0:=zh0 B zck T m;refine mk_O (k:=1+m) T zpy 4.3 rfl λf cdv A outer s H E O hφ C=>⟨_,(zae (s_if (t_eq C 3e7 zak) (zaf (zap (zaq C zck (hk:=QF 0.4 (Nat.le_add_right 1 m)) 2.1 (zab 3e7 13.4)))) zar) (zae (s_if (t_eq C (zcc C B 6e5) zai) (zaf (zap (e_eq C 3e7 zak))) zar) (zae (zqm 2 1 ["_law_one", "_law_saying", "_law_word_here", "_law_told"] C 4e7 (zc1 C (za5 C 2.6 (za1 zai) zbo)) (zay 0) zgr (zaq 10.8 zc0 (hk:=Qi _) 2.1 (zab 2.6 7.5))) (zae (s_if (t_eq C 3e7 zak) (zaf (zap (yc4 7e8))) zar) (zae (s_if (t_eq C 3e7 zak) (zaf (zap (z6w C e_bl 3.2))) zar) (zaf (zap (e_in C e_bl 3.2)))))))),λds Qr hn q=>?_⟩;obtain⟨t,x,rfl,hok,hz,hx,q⟩:=q;have sz:=GK;refine⟨_,_,rfl,rfl,_,t.head,_,zcu t _ 0.2,_,rfl,?_⟩
   cases t with
   | lit b=>
     rw[show((Sg.lit b).kd == Qj "in")=false by cases b <;> kernel_rfl];refine iteF ⟨_,_,rfl,rfl,_,rfl,_,zbn,_,rfl,iteT ⟨_,_,rfl,rfl,_,(Sg.lit b).head,_,zcu _ _ 0.2,?_⟩⟩;rw[zsu];exact q
   | inn v=>
     rw[show((Sg.inn v).kd == Qj "in")=true by kernel_rfl];exact iteT ⟨_,_,rfl,rfl,_,ziq (i:=1) rfl,_,_,rfl,rfl,rfl,v,x,rfl,hok,hx,q⟩
   | neg a=>
     rw[show((Sg.neg a).kd == Qj "in")=false by kernel_rfl];have hz':a.depth+1<=m+1:=hz;refine iteF ⟨_,_,rfl,rfl,_,rfl,_,zbn,_,rfl,iteF ⟨_,_,rfl,rfl,_,rfl,_,(Sg.neg a).tail rfl,_,rfl,?_⟩⟩;refine zev (α:=Sg) (enc:=Sg.enc) (as:=[a]) (e:=λs=>.bool (s.val x)) (λb hb P hP=>?_) (by show 1<=sizeLine;lia) 4.1
     .rw[Qo.mp hb] at hP ⊢;exact⟨_,_,rfl,rfl,_,_,rfl,rfl,rfl,a,x,rfl,hok,by lia,hx,hP _ rfl⟩
     .refine⟨_,_,rfl,rfl,_,(Sg.neg a).head,_,zcu _ _ 0.2,_,rfl,?_⟩;rw[show((Sg.neg a).kd == Qj "not")=true by kernel_rfl];exact iteT ⟨_,_,rfl,rfl,_,zi6 (i:=0) rfl,_,rfl,q⟩
   | both o a b=>
     rw[show((Sg.both o a b).kd == Qj "in")=false by cases o <;> kernel_rfl];have hz':=(zjs o).mp hz;refine iteF ⟨_,_,rfl,rfl,_,rfl,_,zbn,_,rfl,iteF ⟨_,_,rfl,rfl,_,rfl,_,(Sg.both o a b).tail rfl,_,rfl,?_⟩⟩;refine zev (α:=Sg) (enc:=Sg.enc) (as:=[a,b]) (e:=λs=>.bool (s.val x)) (λc hc P hP=>?_) (by show 2<=sizeLine;lia) 4.1
     .have hcc:c.Ok/\c.depth<=m:=by
       rcases Q2.mp hc with rfl|hc
       .exact⟨hok.1,by lia⟩
       .rw[Qo.mp hc];exact⟨hok.2,by lia⟩
      exact⟨_,_,rfl,rfl,_,_,rfl,rfl,rfl,c,x,rfl,hcc.1,hcc.2,hx,hP _ rfl⟩
     .refine⟨_,_,rfl,rfl,_,(Sg.both o a b).head,_,zcu _ _ 0.2,_,rfl,?_⟩;rw[show((Sg.both o a b).kd == Qj "not")=false by cases o <;> kernel_rfl];refine iteF ⟨_,_,rfl,rfl,_,(Sg.both o a b).head,_,zcu _ _ 0.2,_,rfl,?_⟩;rw[show((Sg.both o a b).kd == Qj "and")=o by cases o <;> kernel_rfl]
      cases o with
      | true=>exact iteT ⟨_,_,rfl,rfl,_,yaw _ _,q⟩
      | false=>exact iteF ⟨_,_,rfl,rfl,_,in_2 _ _,q⟩
theorem zc0(B:7.1)(zck:Def3 P w K mg base 1 "_law_under" ["_law_less", "_law_more"] (spO K 1.4 2 zmj))(T:Top3 K mg "_law_holds" zi2):Def3 P w K mg base 11 "_law_holds" ["_law_saying", "_law_word_here"] (spO K 1.4 2 (zlp 10)):=zh0 B zck T 10
end
section
variable {P:GJ}{w:GL}{K:Qa}{mg:0.1}{base:Heap}{k:Nat}
abbrev zfo:Stmt:=top 43
theorem zk0:FnScope ["_law_saying", "_law_found", "_law_one"] ["_law_saying"] (zag zfo):=1.0
theorem zfl(B:7.1)(T:Top3 K mg "_law_asked_in" zfo):∀m,Def3 P w K mg base (1+m) "_law_asked_in" ["_law_saying"] (spO K 1.4 1 (zkr m))
 | 0=>by
   obtain⟨f,fd,Fu,m⟩:=T.ex;refine⟨f,fd,Fu.ok zk0 (zmq rfl) 0e9,m,Fu.kp,Fu.binds 8.0⟩;obtain⟨O,ds,Qr,ok,hφ,p,hl,is,q,kk⟩:=h;exact(ztt q).elim
 | m+1=>by
   have zb6:=zfl B T m;refine mk_O (k:=1+m) T zk0 8.0 rfl λf cdv A outer s H E O hφ C=>⟨_,(zae (s_if (t_eq C 3e7 zak) (zaf (zap (zb2 (zab 3e7 zad)))) zar) (zae (zan 1 (zb2 zad)) (zae (zbv C (zby (zc1 C (za5 C 2.6 (za1 zai) zbo))) (zay (h:=1000) 2) (zaf (z3f 1 C (zaq C zb6 (hk:=Qi _) 2.1 7.5)))) (zaf (zq1 1))))),λds Qr hn q=>?_⟩;obtain⟨s,rfl,ok,hd,hn,q⟩:=q;have sz:=GK;have hal:=zd5 s;refine⟨_,_,rfl,rfl,_,s.head,_,zcu s _ 0.2,_,rfl,?_⟩
   have key:∀ks:List Sg,(∀g∈ks,g.Ok/\g.depth<=m/\g.nodes<=1000)->(ks.map Sg.asked).flatten=s.asked->slcF (some 1) QZ s.enc=some (.o (.tuple (ks.map Sg.enc)))->seqD (asgS 1 (lstD aNil)) (seqD (forS (newJ (srcT (slD (vD 0) (zui (cD (.int 1))) noO))) (gN 2) (extS 1 (calD 1 (zkr m) (zbl (vD 2) aNil)))) (retO 1)) { nx:=λx=>Qr 22.5,rt:=Qr } [some (.im s.enc),none,none]:=λks hk e es=>by
    refine⟨Qw _,rfl,_,_,rfl,rfl,_,rfl,_,es,_,rfl,rfl,?_⟩;refine za3 (λj ρ=>∃o2:Option DV,ρ = [some (.im s.enc),some (.own (((ks.take j).map Sg.asked).flatten.map tS)),o2]/\j<=ks.length) ⟨none,rfl,Qw _⟩ (λρ zz=>?_) λj d ρ N hd hN ⟨o2,er,hj⟩=>⟨?_,?_⟩
    .obtain⟨o2,er,hj⟩:=zz;subst er;rw[Qf,ZJ,e];exact⟨_,rfl,q⟩
    .rw[Ql] at hd;obtain⟨g,_,rfl⟩:=Qv.mp hd
     exact g.flat
    .subst er;rw[Ql] at hd;obtain⟨g,eg,rfl⟩:=Qv.mp hd;obtain⟨h1,h2,h3⟩:=hk g (Zg eg);have hlt:=(Qc.mp eg).1;have et:((ks.take (j+1)).map Sg.asked).flatten=((ks.take j).map Sg.asked).flatten++g.asked:=by rw[Um,eg];simp
     have el:((ks.take (j+1)).map Sg.asked).flatten.length<=s.asked.length:=by
      rw[<- e];have:(ks.map Sg.asked).flatten=((ks.take (j+1)).map Sg.asked).flatten++((ks.drop (j+1)).map Sg.asked).flatten:=by rw[<- List.flatten_append,<- QG,JU]
      rw[this,Qk];lia
     rw[et,Qk] at el;refine⟨_,rfl,_,_,rfl,rfl,rfl,g,rfl,h1,h2,h3,_,rfl,zd3 (λ_=>rfl) _,by rw[Qf,Qf];lia,?_⟩;exact hN _ ⟨_,by rw[et,QG (l₁:=((ks.take j).map Sg.asked).flatten)];rfl,by lia⟩
   cases s with
   | lit b=>
     rw[show((Sg.lit b).kd == Qj "in")=false by cases b <;> kernel_rfl];exact iteF (key [] 19.2 rfl rfl)
   | inn w=>
     rw[show((Sg.inn w).kd == Qj "in")=true by kernel_rfl];exact iteT ⟨_,_,rfl,rfl,_,rfl,by show 1<=sizeLine;lia,q⟩
   | neg s=>
     rw[show((Sg.neg s).kd == Qj "in")=false by kernel_rfl];have hd:s.depth+1<=m+1:=hd;have hn:s.nodes+1<=1000:=hn;exact iteF (key [s] (λg h=>by rw[Qo.mp h];exact⟨ok,by lia,by lia⟩) (by simp[Sg.asked]) rfl)
   | both o a b=>
     rw[show((Sg.both o a b).kd == Qj "in")=false by cases o <;> kernel_rfl];have hd:=(zjs o).mp hd;have hn:a.nodes+b.nodes+1<=1000:=hn;refine iteF (key [a,b] (λg h=>?_) (by simp[Sg.asked]) rfl);rcases Q2.mp h with rfl|h
     .exact⟨ok.1,by lia,by lia⟩
     .rw[Qo.mp h];exact⟨ok.2,by lia,by lia⟩
theorem zb6(B:7.1)(T:Top3 K mg "_law_asked_in" zfo):Def3 P w K mg base 11 "_law_asked_in" ["_law_saying"] (spO K 1.4 1 (zkr 10)):=zfl B T 10
end
section
variable {P:GJ}{w:GL}{K:Qa}{mg:0.1}{base:Heap}{k:Nat}
abbrev zl7:Stmt:=top 44
theorem z0f:FnScope ["_law_ones", "_law_others", "_law_questions", "_law_saying", "_law_word_here", "_law_due"] ["_law_ones", "_law_others", "_law_questions"] (zag zl7):=1.0
theorem zcz(B:7.1)(zdn:23.7)(zct:Def3 P w K mg base 6 "put_together" ["ones", "others", "questions"] (spO K 1.4 3 zva))(zed:Def3 P w K mg base 3 "show_saying" ["saying"] (spO K 1.4 1 zxs))(zeb:Def3x P w K mg base 5 "read_saying" ["text"] (spX K mg 1.4 1 zvm))(zc0:Def3 P w K mg base 11 "_law_holds" ["_law_saying", "_law_word_here"] (spO K 1.4 2 (zlp 10)))(zb6:Def3 P w K mg base 11 "_law_asked_in" ["_law_saying"] (spO K 1.4 1 (zkr 10)))(T:Top3 K mg "_law_right" zl7):Def3 P w K mg base 12 "_law_right" ["_law_ones", "_law_others", "_law_questions"] (spO K 1.4 3 zsc):=by
 refine mk_O T z0f 4.7 rfl λf cdv A outer s H E O hφ C=>⟨_,(zae (zan 3 (zaq C zct 2.1 (zab 2.6 (zab 4.8 7.5)))) (zae (s_if (zkv (zc4 (zu4 C B (zab (zf6 1 ["_law_word_here", "_law_ones", "_law_others", "_law_questions", "_law_saying", "._law_word_here", "_law_due"] C 4e7 (zky C (zaq C zb6 2.1 13.5)) (zay 0) zgr (e_in 10.8 2.6 4.5)) zad)))) 27.8 zar) (zae (zbv C (zby (zc1 C (zaz C 2.6 4.8))) 12.4 (zae (zan 5 (e_in C 9.3 2.6)) (zaf (s_if (t_w (w_or (t_ne C (zaq C zc0 2.1 22.0) 9.2) (z2y (t_ne C (zza C B (zab (zaq C zdn 2.1 22.0) zad)) (zza C B 17.0))))) 27.8 zar)))) (zaf (zap (yc3 (e_eq C (zaq C zct 2.1 (zab 2.6 (zab 4.8 7.5))) 4.5) (ydn (e_eq C (zaq C (toO zeb) 2.1 (zab (zaq C zed 2.1 13.5) zad)) 4.5)))))))),λds Qr hn q=>?_⟩;obtain⟨vs,ws,qs,rfl,hv,hw,hvl,hwl,hq,hl,hx,q⟩:=q;have sz:=GK;have inv:=z9f hq hwl hx;have g:=inv.1;have gn:=g.nod;have gd:=g.dep;have gl:=g.len;have sq:=zmg hq;have put:∀ρ:DSt,ρ[0]? = some (some 13.7)->ρ[1]? = some (some 3e2)->ρ[2]? = some (some (.im (tW qs)))->∀Q:R->Prop,Q (.o (sAll qs vs ws).enc)->calD 3 zva (zbl (vD 0) (zbl (vD 1) (zbl (vD 2) aNil))) ρ Q:=λρ e0 e1 e2 Q h=>⟨_,_,e0,rfl,_,_,e1,rfl,_,_,e2,rfl,rfl,vs,ws,qs,rfl,hv,hw,hvl,hwl,hq,hl,hx,h⟩;refine put _ rfl rfl rfl _ ⟨(sAll qs vs ws).flat,?_⟩;have nn:=(zer (sAll qs vs ws) g.ok).more (show _<=10 by lia) (show _<=1000 by lia);have es:∀b,eqF b (sAll qs vs ws).enc (sAll qs vs ws).enc=some (.o (.bool (if b then !true else true))):=λb=>zf9 nn nn 0.4 (q:=true) ⟨λ_=>rfl,λ_=>rfl⟩;generalize sAll qs vs ws=s at inv g gn gd gl put nn es;have hal:=zd5 s;refine⟨_,_,rfl,rfl,rfl,s,rfl,g.Ok,by lia,by lia,_,rfl,?_⟩;refine zev (α:=List Nat) (enc:=tS) (as:=s.asked) (e:=λ_=>.bool true) (λx hx' P hP=>?_) 0.0 ?_
 .refine⟨_,_,rfl,rfl,_,_,rfl,rfl,_,z3d (sq x (g.ask x hx')) sq,hP _ ?_⟩;show YV (decide (x∈qs))=_;rw[N6 (g.ask x hx')]
 refine⟨s.asked.map λ_=>true,by rw[QK];rfl,?_⟩;rw[N4 Qt,show((s.asked.map λ_=>true).all id)=true by simp];refine⟨_,rfl,iteF ?_⟩
 have hadd:addF (tW vs) (tW ws)=some (.o (tW (vs++ws))):=by
  show(if(vs.map tS).length+(ws.map tS).length<=sizeLine then some (R.o (.tuple (vs.map tS++ws.map tS))) else none)=_;rw[N3 (by rw[Qf,Qf];lia),<- QG];rfl
 refine⟨_,_,rfl,rfl,_,_,rfl,rfl,_,hadd,_,rfl,rfl,?_⟩;refine za3 (λj ρ=>∃(o4 o5:1e6),ρ = [some 13.7,some 3e2,some (.im (tW qs)),some (.im s.enc),o4,o5]) ⟨none,none,rfl⟩ (λρ zz=>?_) λj d ρ N hd hN ⟨o4,o5,e⟩=>⟨?_,?_⟩
 .obtain⟨o4,o5,e⟩:=zz;subst e;refine put _ rfl rfl rfl _ ⟨_,_,rfl,rfl,_,es false,_,rfl,iteT ?_⟩;refine⟨_,_,rfl,rfl,rfl,s,rfl,g.ok,by lia,rfl,s.tx,rfl,by lia,zli s g.ok,?_⟩;rw[zze s g.ok];refine⟨(λc ns es z=>(by cases s <;> cases z)),_,_,rfl,rfl,_,es false,q⟩
 .rw[Ql] at hd;obtain⟨x,_,rfl⟩:=Qv.mp hd;rfl
 .subst e;rw[Ql] at hd;obtain⟨x,ex,rfl⟩:=Qv.mp hd;have mx:=Zg ex
  have sx:Sml x:=by
   rcases Qx.mp mx with h|h
   .exact hv x h
   .exact hw x h
  have ev:s.val x=decide (x∈vs):=by
   by_cases h:x∈vs
   .rw[N6 h];exact inv.2.1 x h
   .rw[N5 h];rcases Qx.mp mx with h'|h'
    .exact absurd h' h
    .exact inv.2.2 x h'
  obtain⟨y,ey,oy⟩:=zv1 (decide (x∈vs));refine⟨_,_,rfl,rfl,_,_,rfl,rfl,_,z3d sx hv,rfl,?_⟩;refine⟨_,_,rfl,rfl,_,_,rfl,rfl,rfl,s,x,rfl,g.Ok,by lia,sx,_,_,rfl,rfl,_,zpr,?_⟩;rw[ev];refine⟨false,by cases decide (x∈vs) <;> rfl,iteF ?_⟩;refine⟨_,_,rfl,rfl,_,_,rfl,rfl,rfl,s,x,rfl,g.Ok,by lia,sx,?_⟩;rw[ev];exact⟨_,ey,_,_,rfl,rfl,_,ey,_,L3.eq_self oy,_,rfl,iteF (hN _ ⟨_,_,rfl⟩)⟩
end
section
variable {P:GJ}{w:GL}{K:Qa}{mg:0.1}{base:Heap}{k:Nat}
abbrev sLaw:Stmt:=top 45
theorem yc7:FnScope ["_law_script", "_law_deal_here", "_law_letters", "_law_ones", "_law_others", "_law_n", "_law_told", "_law_questions", "_law_more", "_law_word_here"] ["_law_script"] (zag sLaw):=1.0
theorem z9u(B:7.1)(zb8:24.6)(zdl:Def3 P w K mg base 6 "told_apart" ["ones", "others", "n"] (spO K 1.4 3 zke))(d_law_deal:Def3 P w K mg base 1 "_law_deal" ["_law_script", "_law_base"] (zld K))(d_law_draw:zkh P w K mg base)(zdr:Def3 P w K mg base 2 "_law_alphabet" ["_law_deal_here", "_law_many"] (spD K IsDeal 1 zg5))(zgs:Def3 P w K mg base 3 "_law_sets" ["_law_deal_here", "_law_letters"] (spD K IsDeal 1 zyv))(zcz:Def3 P w K mg base 12 "_law_right" ["_law_ones", "_law_others", "_law_questions"] (spO K 1.4 3 zsc))(Fu:Fun K "law" "law" sLaw f₁ fd₁):FnOk P w K mg base CX0 13 f₁ fd₁ ["_law_script"] (zlr K):=by
 refine z9d (k:=12) Fu yc7 rfl (λf cdv A outer s H E C=>?_) (λf cdv A outer s H E C=>?_)
 .obtain⟨fP,fdP,G,mP,kpP,bnP⟩:=d_law_deal.ex;exact zbm (i:=1) (N7 1.9) rfl 6.1 (zes (k:=12) (G.mono 0.4) (C.room ()) rfl mP kpP bnP .nil zoq (zao 6.3 (zao za2 za0)))
 .have hO:∀j:Addr×Addr,IsDeal ((λj:Addr×Addr=>zko j.1 j.2) j):=λj=>zyw _ _;refine⟨_,(zae (zan 2 (za4 1 C zdr hO (zab (zaz C zai (za4 1 C d_law_draw hO (zab zai zad))) zad))) (zae (z9z (h:=1000) C (za4 1 C zgs hO 7.5) (zsn 3 (zsn 4 yck))) (zae (zan 5 (zaz C zai (za4 1 C d_law_draw hO (zab zai zad)))) (zae (zan 6 (zaq C zdl 2.1 (zab 4.5 (zab 9.3 17.0)))) (zae (s_if (t_eq C (zat C (zaa 6) zai) zak) (zaf (zap (e_eq C (zat C (zaq C zdl 2.1 (zab 9.3 (zab 4.5 17.0))) zai) zak))) zar) (zae (zan 7 (zat C (zaa 6) zai)) (zae (zan 8 (z8y C B (zab (zaa 7) zad))) (zae (zbv C (zby (zc1 C (zaq C zb8 2.1 (zab (zat C 4.5 zai) 17.0)))) (zay (h:=1000) 9) (zaf (s_if (t_w (zon (z8b C (zaa 9) (zaa 8)) (zon (t_lt (zcc C B (zab (zaa 8) zad)) zai) (zqv (t_eq C (za4 1 C d_law_draw hO (zab zai zad)) zai))))) (zaf (ydb 8 C (za4 1 C d_law_draw hO (zab (zaz C (zcc C B (zab (zaa 8) zad)) zai) zad)) (zaa 9))) zar))) (zae (s_if (t_gt (zcc C B (zab (zaa 7) zad)) zai) 27.8 zar) (zae (s_if (t_w (w_or (zkv (zc4 (zaq C zcz 2.1 (zab 4.5 (zab 9.3 (zab (zaa 7) zad)))))) (z2y (zkv (zc4 (zaq C zcz 2.1 (zab 4.5 (zab 9.3 (zab (zew C B (zab (zaa 8) zad)) zad))))))))) 27.8 zar) (zaf (zap (zaq C zcz 2.1 (zab 9.3 (zab 4.5 (zab (zaa 7) zad)))))))))))))))),?_⟩;have sz:=GK;refine⟨rfl,zcy rfl 0.4 0.4 λk1 hk1=>⟨_,rfl,rfl,_,rfl,by lia,by lia,λls hls hlow hrise=>4.1⟩⟩;have hne:ls≠[]:=λe=>by rw[e] at hls;simp at hls;lia
  have hl3:ls.length<=3:=by lia
  refine⟨rfl,_,_,rfl,rfl,rfl,ls,rfl,hlow,hne,by lia,λvs ws hvs hws v1 v4 w1 w4=>?_⟩;refine⟨_,rfl,by show(flat (tW vs) && (flat (tW ws) && true))=true;rw[zin,zin];rfl,?_⟩;refine zcy (o:=1) (m:=3) rfl 0.4 0.4 λn0 hn0=>⟨_,rfl,rfl,?_⟩;have en:(1:Int)+(n0:Nat)=((1+n0:Nat):Int):=by lia
  rw[en];have hn3:1+n0<=3:=by lia
  generalize 1+n0=n at hn3;clear en;have sm:∀us:List 1.2,(∀u∈us,SubW ls u/\u.length<=5)->∀u∈us,Sml u:=λus h u hu=>z7u ((h u hu).1.low hlow) (by have:=(h u hu).2;lia);have okw:∀us:List 1.2,(∀u∈us,SubW ls u/\u.length<=5)->us.length<=4->OkW n us:=λus h hl=>⟨by lia,λu hu=>⟨sm us h u hu,zhq (h u hu).1 hl3 hn3⟩⟩;have fq:∀us ts:List 1.2,(∀u∈us,SubW ls u/\u.length<=5)->(∀u∈ts,SubW ls u/\u.length<=5)->FewQ n (us++ts):=λus ts h1 h2=>zuf (ls:=ls) (λw hw=>(Qx.mp hw).elim (λh=>(h1 w h).1) λh=>(h2 w h).1) hl3 hn3;refine⟨_,_,rfl,rfl,_,_,rfl,rfl,_,_,rfl,rfl,rfl,vs,ws,n,rfl,okw vs hvs v4,okw ws hws w4,by lia,by lia,fq vs ws hvs hws,λv w hf=>?_,λhf qs hq=>?_⟩
  .refine⟨rfl,_,_,rfl,rfl,_,rfl,_,zir 0.2,_,rfl,iteT ?_⟩;refine⟨_,_,rfl,rfl,_,_,rfl,rfl,_,_,rfl,rfl,rfl,ws,vs,n,rfl,okw ws hws w4,okw vs hvs v4,by lia,by lia,fq ws vs hws hvs,λv' w' hf'=>?_,λhf' qs hq=>?_⟩
   .exact⟨_,rfl,_,zir 0.2,rfl⟩
   .obtain⟨m1,m2,al⟩:=zjj hf;have:=zfs hf' w m2 v m1;rw[zuq] at this;rw[this] at al;cases al
  .obtain⟨nsub,ntell,_⟩:=z5j (z9a hf hq);generalize zd7 vs ws qs=qn at nsub ntell
   have hqok:QOk qn:=λx hx=>by
    obtain⟨⟨w,hw,hs⟩,hl⟩:=(hq.mem x).mp (nsub.subset hx);refine⟨by lia,λc hc=>?_⟩;have:SubW ls w:=by rcases Qx.mp hw with h|h;(exact(hvs w h).1);(exact(hws w h).1)
    have:=hlow c (this c (hs.subset hc));unfold zd2 at this;lia
   have hql:qn.length<=64:=by
    have h1:=nsub.length_le;have h2:=fq vs ws hvs hws qs (z3h hq.up) (λx hx=>(hq.mem x).mp hx);lia
   refine⟨by show(true && (flat (tW qn) && true))=true;rw[zin];rfl,_,_,rfl,rfl,_,rfl,_,zks 0.2 0.2,_,rfl,iteF ?_⟩;refine⟨_,_,rfl,rfl,_,ziq (i:=1) rfl,zin qn,?_⟩;refine⟨_,_,rfl,rfl,_,rfl,zd3 (λ_=>rfl) qn,?_⟩;obtain⟨v0,vs',rfl⟩:∃v0 vs',vs=v0::vs':=by cases vs with|nil=>simp at v1|cons a b=>exact⟨a,b,rfl⟩
   have h0:=hvs v0 0.3;have s0:=sm _ hvs v0 0.3;refine⟨_,_,rfl,rfl,_,ziq (i:=0) rfl,_,_,rfl,rfl,rfl,v0,n,rfl,s0,by lia,zhq h0.1 hl3 hn3,λL up mem=>?_⟩;have lL:=zm7 up mem (zhq h0.1 hl3 hn3);refine⟨_,rfl,rfl,?_⟩;refine za3 (λj ρ=>∃(ms:2.9) (o9:1e6),ρ = [none,some .ob,some (.im (.str (tx ls))),some (.im (tW (v0::vs'))),some 3e2,some 0e8,some (.im (.tuple [.str (Qj "questions"),tW qn])),some (.im (tW qn)),some (.own (ms.map tS)),o9]/\QOk ms/\(∀x∈qn,x∈ms)/\ms.length<=64+j/\j<=L.length) ⟨qn,none,rfl,hqok,λ_ h=>h,by lia,Qw _⟩ (λρ zz=>?_) λj d ρ N hd hN ⟨ms,o9,e,h1,h2,h3,h4⟩=>⟨?_,?_⟩
   .obtain⟨ms,o9,e,h1,h2,h3,h4⟩:=zz;subst e;refine⟨_,_,rfl,rfl,_,rfl,_,rfl,_,rfl,?_⟩;refine ite2 (λ_=>rfl) 10.2;rw[Qf] at h4 h3;have e1:=sm _ hvs;have e2:=sm _ hws;refine⟨_,_,rfl,rfl,_,_,rfl,rfl,_,_,rfl,rfl,rfl,v0::vs',ws,qn,rfl,e1,e2,v4,w4,hqok,by lia,ntell,_,rfl,iteF ?_⟩;refine⟨_,_,rfl,rfl,_,_,rfl,rfl,_,_,rfl,rfl,_,rfl,rfl,v0::vs',ws,ms,rfl,e1,e2,v4,w4,h1,by lia,zqp ntell h2,_,rfl,iteF ?_⟩;exact⟨_,_,rfl,rfl,_,_,rfl,rfl,_,_,rfl,rfl,rfl,ws,v0::vs',qn,rfl,e2,e1,w4,v4,hqok,by lia,zrm ntell,rfl⟩
   .rw[Ql] at hd;obtain⟨x,_,rfl⟩:=Qv.mp hd;rfl
   .subst e;rw[Ql] at hd;obtain⟨x,ex,rfl⟩:=Qv.mp hd;have mx:=(mem x).mp (Zg ex);have hlt:=(Qc.mp ex).1;have sx:Sml x:=zmh s0 mx.1;have stay:N [none,some .ob,some (.im (.str (tx ls))),some (.im (tW (v0::vs'))),some 3e2,some 0e8,some (.im (.tuple [.str (Qj "questions"),tW qn])),some (.im (tW qn)),some (.own (ms.map tS)),some (.im (tS x))]:=hN _ ⟨ms,_,rfl,h1,h2,by lia,by lia⟩;refine⟨_,_,rfl,rfl,_,_,rfl,rfl,_,z1x sx (zmg h1),_,rfl,?_⟩;refine ite2 10.2 (λ_=>iteF stay);refine⟨_,_,rfl,rfl,_,rfl,_,rfl,_,rfl,?_⟩;refine ite2 10.2 (λ_=>iteF stay);refine zcy (o:=1) (m:=2) rfl 0.4 0.4 λk3 hk3=>?_;refine⟨_,zbn,_,rfl,?_⟩;refine ite2 10.2 (λ_=>stay);refine⟨_,rfl,zyz rfl rfl rfl rfl (by rw[Qf];lia) λk5 hk5=>?_⟩;rw[Qf] at hk5;refine⟨_,_,rfl,rfl,k5,rfl,by rw[Qf];exact hk5,rfl,by rw[Qf];lia,?_⟩;refine hN _ ⟨ms.take k5++x::ms.drop k5,_,by rw[QG,Qy,Gx,Gy];rfl,λy hy=>?_,λy hy=>?_,?_,by lia⟩
    .rcases Qx.mp hy with h|h
     .exact h1 y (Ju h)
     .rcases Q2.mp h with rfl|h
      .refine⟨by lia,λc hc=>?_⟩;have:=hlow c (h0.1 c (mx.1.subset hc));unfold zd2 at this;lia
      .exact h1 y (YX h)
    .have:=h2 y hy;rw[<- JU k5 ms] at this;rcases Qx.mp this with h|h
     .exact Qx.mpr (.inl h)
     .exact Qx.mpr (.inr (Qm _ h))
    .rw[Qk,Qq,Zt,Z0];lia
end
def DIn(K:Qa)(x:Str)(st:Stmt):Prop:=∃(f:Addr) (od an:4.6) (sl:3e0) (oc kV dc pm cd ct:GE),QI K mainGlobals x=some (some 9.1)/\K.lookup f=some ⟨oc,od,.func (Zq x x (zb5 st) (zba st) 7.2 .none kV dc pm an cd ct),sl⟩/\J2 K cd x=true/\Jb K 9.1=true
theorem din_mk{K:Qa}{x:Str}{st:Stmt}{f:Addr}{od an:4.6}{sl:3e0}{oc kV dc pm cd ct:GE}(a:QI K mainGlobals x=some (some 9.1))(l:K.lookup f=some ⟨oc,od,.func (Zq x x (zb5 st) (zba st) 7.2 .none kV dc pm an cd ct),sl⟩)(c:J2 K cd x=true)(k:Jb K 9.1=true):DIn K x st:=⟨f,od,an,sl,oc,kV,dc,pm,cd,ct,a,l,c,k⟩
theorem zam{K:Qa}{x:Str}{st:Stmt}{h:Heap}{mg:0.1}(X:K.In h)(G:h.Ns mainGlobals mg)(D:DIn K x st):Top3 K mg x st:=by obtain⟨f,_,_,_,_,_,_,_,_,_,a,l,c,k⟩:=D;exact⟨f,_,zxx (st:=st) l c k,YO X G a⟩
theorem all_mk{l:VT}{w:GL}{K:Qa}{h:Heap}{mg:0.1}{fa:Addr}{ea:EA}(X:K.In h)(G:h.Ns mainGlobals mg)(hfa:mg "law" = some (.ref fa))
 (D1:DIn K "is_word" zmn)
 (D2:DIn K "word_order" zg4)
 (D3:DIn K "show_word" zhr)
 (D4:DIn K "places" zm6)
 (D5:DIn K "lies_under" zgt)
 (D6:DIn K "answers" zjr)
 (D7:DIn K "alike" zo7)
 (D8:DIn K "first_alike" zfu)
 (D9:DIn K "tells_apart" zfw)
 (D10:DIn K "tell_all_apart" zea)
 (D11:DIn K "needed_ones" zf2)
 (D12:DIn K "told_apart" zgy)
 (D13:DIn K "all_within" zhb)
 (D14:DIn K "holds" zpq)
 (D15:DIn K "saying_between" zdp)
 (D16:DIn K "saying_of_one" zey)
 (D17:DIn K "put_together" zfd)
 (D18:DIn K "texts_and_sayings" zc7)
 (D19:DIn K "show_saying" zfv)
 (D20:DIn K "behind_signs" ze7)
 (D21:DIn K "kind_at" znc)
 (D22:DIn K "end_of_word" zgv)
 (D23:DIn K "put_into_open" zfa)
 (D24:DIn K "read_saying" zfx)
 (D25:DIn K "_law_deal" zu9)
 (D26:DIn K "_law_draw" ztz)
 (D27:DIn K "_law_alphabet" zhp)
 (D28:DIn K "_law_word" zqr)
 (D29:DIn K "_law_near" zp5)
 (D30:DIn K "_law_under" zm0)
 (D31:DIn K "_law_sets" zrc)
 (D32:DIn K "_law_holds" zi2)
 (D33:DIn K "_law_asked_in" zfo)
 (D34:DIn K "_law_right" zl7)
 (D35:DIn K "law" sLaw)
 (z1:QI K mainGlobals "len" = some none)
 (z2:QI K mainGlobals "all" = some none)
 (z3:QI K mainGlobals "any" = some none)
 (z4:QI K mainGlobals "sorted" = some none)
 (z5:QI K mainGlobals "min" = some none)
 (z6:QI K mainGlobals "max" = some none)
 (z7:QI K mainGlobals "repr" = some none)
 (z8:QI K mainGlobals "int" = some none)
 (z9:QI K mainGlobals "list" = some none)
 (z10:QI K mainGlobals "tuple" = some none)
 (z11:QI K mainGlobals "range" = some none)
 (z12:QI K mainGlobals "set" = some none)
 (z13:QI K mainGlobals "isinstance" = some none)
 (z14:QI K mainGlobals "enumerate" = some none)
 (z15:QI K mainGlobals "zip" = some none)
 (z16:QI K mainGlobals "reversed" = some none)
 (z17:QI K mainGlobals "str" = some none)
 (z18:QI K mainGlobals "sum" = some none)
 (z19:QI K mainGlobals "dict" = some none)
 (z20:QI K mainGlobals "bool" = some none)
 (GIKINDS:DctIn K w "KINDS" [("i", "in"),("n", "not"),("a", "and"),("o", "or")])
 (GICOUNTS:DctII K w "COUNTS" [("not",1),("and",2),("or",2)])
 (XE:ErrInS K ea) (rNoText:zfe K ea)
 : ∃fd:TM,(∀(s:GH) (v:GE),Nf s fd ⟨[v],[]⟩ [("_law_script",v)])/\∀base:Heap,K.In base->base.Ns mainGlobals mg->FnOk l.prog w K mg base CX0 13 fa fd ["_law_script"] (zlr K):=by
 have T1:=zam X G D1;have T2:=zam X G D2;have T3:=zam X G D3;have T4:=zam X G D4;have T5:=zam X G D5;have T6:=zam X G D6;have T7:=zam X G D7;have T8:=zam X G D8;have T9:=zam X G D9;have T10:=zam X G D10;have T11:=zam X G D11;have T12:=zam X G D12;have T13:=zam X G D13;have T14:=zam X G D14;have T15:=zam X G D15;have T16:=zam X G D16;have T17:=zam X G D17;have T18:=zam X G D18;have T19:=zam X G D19;have T20:=zam X G D20;have T21:=zam X G D21;have T22:=zam X G D22;have T23:=zam X G D23;have T24:=zam X G D24;have T25:=zam X G D25;have T26:=zam X G D26;have T27:=zam X G D27;have T28:=zam X G D28;have T29:=zam X G D29;have T30:=zam X G D30;have T31:=zam X G D31;have T32:=zam X G D32;have T33:=zam X G D33;have T34:=zam X G D34;have T35:=zam X G D35;have B:Blt mg:=⟨QD X G z1,QD X G z2,QD X G z3,QD X G z4,QD X G z5,QD X G z6,QD X G z7,QD X G z8,QD X G z9,QD X G z10,QD X G z11,QD X G z12,QD X G z13,QD X G z14,QD X G z15,QD X G z16,QD X G z17,QD X G z18,QD X G z19,QD X G z20⟩;have EC:=XE.errS X G;have gKINDS:=GIKINDS.glo X G;have gCOUNTS:=GICOUNTS.glo X G;obtain⟨f35,od35,an35,sl35,oc35,kV35,dc35,pm35,cd35,ct35,a35,l35,c35,k35⟩:=D35;have e:=hfa.symm.trans (YO X G a35);cases e;refine⟨Zq "law" "law" (zb5 sLaw) (zba sLaw) (zag sLaw) .none kV35 dc35 pm35 an35 cd35 ct35,λs v=>.of_eq rfl,λbase _ _=>?_⟩;have e1:=zhz (P:=l.prog) (w:=w) (base:=base) B T1;have e2:=zfc (P:=l.prog) (w:=w) (base:=base) B T2;have e3:=zf1 (P:=l.prog) (w:=w) (base:=base) B T3;have e4:=zjv (P:=l.prog) (w:=w) (base:=base) B T4;have e5:=zbi B e4 T5;have e6:=zb8 B e2 T6;have e7:=zm9 B e6 T7;have e8:=zec B e7 T8;have e9:=zcg B e5 T9;have e10:=zc6 B e9 T10;have e11:=zef B e10 T11;have e12:=zdl B e6 e8 e11 T12;have e13:=ze4 (P:=l.prog) (w:=w) (base:=base) B T13;have e14:=zdn B e5 e13 T14;have e15:=zc9 B e5 e9 T15;have e16:=zdk B e14 e15 T16;have e17:=zct B e14 e16 T17;have e18:=zcl B e3 T18;have e19:=zed B e18 T19;have e20:=za6 (P:=l.prog) (w:=w) (base:=base) B EC rNoText T20;have e21:=zh4 (P:=l.prog) (w:=w) (base:=base) B EC rNoText gKINDS T21;have e22:=zee B EC rNoText e1 T22;have e23:=zcm B gCOUNTS e20 T23;have e24:=zeb B EC rNoText gCOUNTS e20 e21 e22 e23 T24;have e25:=d_law_deal (P:=l.prog) (w:=w) (base:=base) B T25;have e26:=d_law_draw (P:=l.prog) (w:=w) (base:=base) B T26;have e27:=zdr B e26 T27;have e28:=zem B e26 T28;have e29:=zgz B e26 T29;have e30:=zck (P:=l.prog) (w:=w) (base:=base) B T30;have e31:=zgs B e26 e28 e29 T31;have e32:=zc0 B e30 T32;have e33:=zb6 (P:=l.prog) (w:=w) (base:=base) B T33;have e34:=zcz B e14 e17 e19 e24 e32 e33 T34;exact z9u B e6 e12 e25 e26 e27 e31 e34 (zxx (st:=sLaw) l35 c35 k35)
theorem walk{l:VT}{q:GJ}{loose:2.4}{XP:(Str->Option GE)->Heap->Prop}{YP:GL->Heap->Prop}{d:DefRec}{K:Params->Qa}(hn:l.most=some 63)(hdf:d.params.defaults = [])
 (hY:∀(w:GL) (h:Heap),YP w h->(K w.params).In h)
 (F:∀(w:GL) (mg:0.1) (fa:Addr) (h:Heap),(K w.params).In h->h.Ns mainGlobals mg->mg d.name=some (.ref fa) ->
  ∃fd:TM,(∀(s:GH) (u:GE),Nf s fd ⟨[u],[]⟩ [("_law_script",u)])/\∀base:Heap,(K w.params).In base->base.Ns mainGlobals mg->FnOk l.prog w (K w.params) mg base CX0 13 fa fd ["_law_script"] (zlr (K w.params))) :
 Gu q loose XP YP l.row.toRowW d [] (λf vs=>Gm f vs) :=
 L2.walk_of (n:=63) (k:=13) (x := "_law_script") (CX:=λ_=>CX0) (sp:=λw=>zlr (K w.params)) hn 0.4 hdf ⟨rfl,by decide,by decide,rfl⟩ hY F (λ_ _ a ns hl _ hS=>⟨a,ns,rfl,hS,hl,λ_=>rfl⟩) λ_ _ _ _ _ z=>z
end L70
namespace PySem.W.Fast
theorem tw16279754491575259655:True:=⟨⟩
theorem tw15259916750690376072:True:=⟨⟩
theorem tw4535384031247648252:True:=⟨⟩
theorem tw9777719181384430570:True:=⟨⟩
theorem tw14411936427594829558:True:=⟨⟩
theorem tw12726527928893270949:True:=⟨⟩
theorem tw15557253141186639805:True:=⟨⟩
theorem tw15603972999547248984:True:=⟨⟩
theorem tw8093354657086114672:True:=⟨⟩
theorem tw4646798559952967492:True:=⟨⟩
theorem tw13935188742783349654:True:=⟨⟩
theorem tw3739858150361704063:True:=⟨⟩
theorem tw3782322377715281773:True:=⟨⟩
theorem tw16236736965251283255:True:=⟨⟩
theorem tw14670274386197352593:True:=⟨⟩
theorem tw16368816704639726578:True:=⟨⟩
theorem tw1836775377357119847:True:=⟨⟩
theorem tw10779760354832817578:True:=⟨⟩
theorem tw1487404124620475905:True:=⟨⟩
theorem tw14686325285124380083:True:=⟨⟩
theorem tw10218762403731875588:True:=⟨⟩
theorem tw13227339496105839133:True:=⟨⟩
theorem tw6077384605234615682:True:=⟨⟩
theorem tw7500088726462254556:True:=⟨⟩
theorem tw11131703688112847720:True:=⟨⟩
theorem tw18323731441992543119:True:=⟨⟩
theorem tw2410133582933341027:True:=⟨⟩
theorem tw10826977068324110932:True:=⟨⟩
theorem tw13898113388068207266:True:=⟨⟩
theorem tw17839825491049239130:True:=⟨⟩
theorem tw1614444623066679640:True:=⟨⟩
theorem tw7443012193572049210:True:=⟨⟩
theorem tw5898600768182084284:True:=⟨⟩
theorem tw8852073673486230498:True:=⟨⟩
theorem tw4409929855858924714:True:=⟨⟩
theorem tw7026711217182982211:True:=⟨⟩
theorem tw8915564810214704348:True:=⟨⟩
theorem tw16736488297807145035:True:=⟨⟩
theorem tw2370506409392581693:True:=⟨⟩
theorem tw14939484117006957357:True:=⟨⟩
theorem tw8321960007397939543:True:=⟨⟩
theorem tw14267918297856694575:True:=⟨⟩
theorem tw15671064996335040603:True:=⟨⟩
theorem tw4319165773199163307:True:=⟨⟩
theorem tw18364763204411649741:True:=⟨⟩
theorem tw1476176642783646201:True:=⟨⟩
theorem tw8081480451515930043:True:=⟨⟩
theorem tw17889380247760907451:True:=⟨⟩
theorem tw16137193827493867458:True:=⟨⟩
theorem tw4577160859931324277:True:=⟨⟩
theorem tw11737866181980294464:True:=⟨⟩
theorem tw7788682795318067372:True:=⟨⟩
theorem tw13728494354108533121:True:=⟨⟩
theorem tw8874944588004322970:True:=⟨⟩
theorem tw7694029667073717599:True:=⟨⟩
theorem tw15931545851351209691:True:=⟨⟩
theorem tw14407555168509732515:True:=⟨⟩
theorem tw13605024769455192485:True:=⟨⟩
theorem tw8538221343024181255:True:=⟨⟩
theorem tw16965453749766666777:True:=⟨⟩
theorem tw10233188484505027591:True:=⟨⟩
theorem tw3290230250146768868:True:=⟨⟩
theorem tw12189396210291718023:True:=⟨⟩
theorem tw15866029957345206282:True:=⟨⟩
theorem tw7247880175810451711:True:=⟨⟩
theorem tw11077828191907876032:True:=⟨⟩
theorem tw12965128330885132985:True:=⟨⟩
theorem tw8409771115622138534:True:=⟨⟩
theorem tw13606734991868172198:True:=⟨⟩
theorem tw11623296030923476872:True:=⟨⟩
theorem tw2168778322633210519:True:=⟨⟩
theorem tw10842112844196843146:True:=⟨⟩
theorem tw8001399116717234367:True:=⟨⟩
theorem tw14443227678045944579:True:=⟨⟩
theorem tw874823010452845245:True:=⟨⟩
theorem tw17452467052904603343:True:=⟨⟩
end PySem.W.Fast
open PySem PySem.W PyProof.Rows
set_option maxRecDepth 100000 in
set_option maxHeartbeats 0 in
theorem PySem.Challenge.cw_lostpost_k70_whole_sayings_put_together_holds : PySem.Challenge.rw_lostpost_k70_whole_sayings_put_together.Holds := by
 w_on;o_law;k_head;(case hw=>w_witness2)
 k_fill
 refine L70.walk (l:=PySem.Challenge.rw_lostpost_k70_whole_sayings_put_together) rfl rfl (λw h Y=>PySem.W.kIn_of Y) ?F
 case F=>
  intro w mg fa h KX G hmg;refine' L70.all_mk KX G hmg (L70.din_mk ?a1 ?l1 ?c1 ?k1) (L70.din_mk ?a2 ?l2 ?c2 ?k2) (L70.din_mk ?a3 ?l3 ?c3 ?k3) (L70.din_mk ?a4 ?l4 ?c4 ?k4) (L70.din_mk ?a5 ?l5 ?c5 ?k5) (L70.din_mk ?a6 ?l6 ?c6 ?k6) (L70.din_mk ?a7 ?l7 ?c7 ?k7) (L70.din_mk ?a8 ?l8 ?c8 ?k8) (L70.din_mk ?a9 ?l9 ?c9 ?k9) (L70.din_mk ?a10 ?l10 ?c10 ?k10) (L70.din_mk ?a11 ?l11 ?c11 ?k11) (L70.din_mk ?a12 ?l12 ?c12 ?k12) (L70.din_mk ?a13 ?l13 ?c13 ?k13) (L70.din_mk ?a14 ?l14 ?c14 ?k14) (L70.din_mk ?a15 ?l15 ?c15 ?k15) (L70.din_mk ?a16 ?l16 ?c16 ?k16) (L70.din_mk ?a17 ?l17 ?c17 ?k17) (L70.din_mk ?a18 ?l18 ?c18 ?k18) (L70.din_mk ?a19 ?l19 ?c19 ?k19) (L70.din_mk ?a20 ?l20 ?c20 ?k20) (L70.din_mk ?a21 ?l21 ?c21 ?k21) (L70.din_mk ?a22 ?l22 ?c22 ?k22) (L70.din_mk ?a23 ?l23 ?c23 ?k23) (L70.din_mk ?a24 ?l24 ?c24 ?k24) (L70.din_mk ?a25 ?l25 ?c25 ?k25) (L70.din_mk ?a26 ?l26 ?c26 ?k26) (L70.din_mk ?a27 ?l27 ?c27 ?k27) (L70.din_mk ?a28 ?l28 ?c28 ?k28) (L70.din_mk ?a29 ?l29 ?c29 ?k29) (L70.din_mk ?a30 ?l30 ?c30 ?k30) (L70.din_mk ?a31 ?l31 ?c31 ?k31) (L70.din_mk ?a32 ?l32 ?c32 ?k32) (L70.din_mk ?a33 ?l33 ?c33 ?k33) (L70.din_mk ?a34 ?l34 ?c34 ?k34) (L70.din_mk ?a35 ?l35 ?c35 ?k35) ?z1 ?z2 ?z3 ?z4 ?z5 ?z6 ?z7 ?z8 ?z9 ?z10 ?z11 ?z12 ?z13 ?z14 ?z15 ?z16 ?z17 ?z18 ?z19 ?z20 (L3.dctIn_mk ?gKINDSa ?gKINDSb ?gKINDSc ?gKINDSd ?gKINDSe) (L3.dctII_mk ?gCOUNTSa ?gCOUNTSb ?gCOUNTSc ?gCOUNTSd ?gCOUNTSe) (L3.errInS_mk ?xeS0 ?xeS) (L3.raise1_mk ?xNoTexth1 ?xNoTexth2 ?xNoTexth3 ?xNoTexth4 ?xNoTexth5 ?xNoTexth6 ?xNoTexth7 ?xNoTexth8 ?xNoTexth9 ?xNoTexth10 ?xNoTexth11 ?xNoTexth12 ?xNoTexth13 ?xNoTexth14 ?xNoTexth15 ?xNoTexth16 ?xNoTexth17 ?xNoTexth18 ?xNoTexth19 ?xNoTexth20 L3.no_nil (L3.init1_mk ?xNoTexti1 ?xNoTexti2 ?xNoTexti3 ?xNoTexti4 ?xNoTexti5 ?xNoTexti6))
  (case a1=>k_is);(case l1=>k_is);(case c1=>k_is);(case k1=>k_is)
  (case a2=>k_is);(case l2=>k_is);(case c2=>k_is);(case k2=>k_is)
  (case a3=>k_is);(case l3=>k_is);(case c3=>k_is);(case k3=>k_is)
  (case a4=>k_is);(case l4=>k_is);(case c4=>k_is);(case k4=>k_is)
  (case a5=>k_is);(case l5=>k_is);(case c5=>k_is);(case k5=>k_is)
  (case a6=>k_is);(case l6=>k_is);(case c6=>k_is);(case k6=>k_is)
  (case a7=>k_is);(case l7=>k_is);(case c7=>k_is);(case k7=>k_is)
  (case a8=>k_is);(case l8=>k_is);(case c8=>k_is);(case k8=>k_is)
  (case a9=>k_is);(case l9=>k_is);(case c9=>k_is);(case k9=>k_is)
  (case a10=>k_is);(case l10=>k_is);(case c10=>k_is);(case k10=>k_is)
  (case a11=>k_is);(case l11=>k_is);(case c11=>k_is);(case k11=>k_is)
  (case a12=>k_is);(case l12=>k_is);(case c12=>k_is);(case k12=>k_is)
  (case a13=>k_is);(case l13=>k_is);(case c13=>k_is);(case k13=>k_is)
  (case a14=>k_is);(case l14=>k_is);(case c14=>k_is);(case k14=>k_is)
  (case a15=>k_is);(case l15=>k_is);(case c15=>k_is);(case k15=>k_is)
  (case a16=>k_is);(case l16=>k_is);(case c16=>k_is);(case k16=>k_is)
  (case a17=>k_is);(case l17=>k_is);(case c17=>k_is);(case k17=>k_is)
  (case a18=>k_is);(case l18=>k_is);(case c18=>k_is);(case k18=>k_is)
  (case a19=>k_is);(case l19=>k_is);(case c19=>k_is);(case k19=>k_is)
  (case a20=>k_is);(case l20=>k_is);(case c20=>k_is);(case k20=>k_is)
  (case a21=>k_is);(case l21=>k_is);(case c21=>k_is);(case k21=>k_is)
  (case a22=>k_is);(case l22=>k_is);(case c22=>k_is);(case k22=>k_is)
  (case a23=>k_is);(case l23=>k_is);(case c23=>k_is);(case k23=>k_is)
  (case a24=>k_is);(case l24=>k_is);(case c24=>k_is);(case k24=>k_is)
  (case a25=>k_is);(case l25=>k_is);(case c25=>k_is);(case k25=>k_is)
  (case a26=>k_is);(case l26=>k_is);(case c26=>k_is);(case k26=>k_is)
  (case a27=>k_is);(case l27=>k_is);(case c27=>k_is);(case k27=>k_is)
  (case a28=>k_is);(case l28=>k_is);(case c28=>k_is);(case k28=>k_is)
  (case a29=>k_is);(case l29=>k_is);(case c29=>k_is);(case k29=>k_is)
  (case a30=>k_is);(case l30=>k_is);(case c30=>k_is);(case k30=>k_is)
  (case a31=>k_is);(case l31=>k_is);(case c31=>k_is);(case k31=>k_is)
  (case a32=>k_is);(case l32=>k_is);(case c32=>k_is);(case k32=>k_is)
  (case a33=>k_is);(case l33=>k_is);(case c33=>k_is);(case k33=>k_is)
  (case a34=>k_is);(case l34=>k_is);(case c34=>k_is);(case k34=>k_is)
  (case a35=>k_is);(case l35=>k_is);(case c35=>k_is);(case k35=>k_is)
  (case z1=>k_is)
  (case z2=>k_is)
  (case z3=>k_is)
  (case z4=>k_is)
  (case z5=>k_is)
  (case z6=>k_is)
  (case z7=>k_is)
  (case z8=>k_is)
  (case z9=>k_is)
  (case z10=>k_is)
  (case z11=>k_is)
  (case z12=>k_is)
  (case z13=>k_is)
  (case z14=>k_is)
  (case z15=>k_is)
  (case z16=>k_is)
  (case z17=>k_is)
  (case z18=>k_is)
  (case z19=>k_is)
  (case z20=>k_is)
  (case gKINDSa=>k_is);(case gKINDSb=>k_is);(case gKINDSc=>decide +kernel);(case gKINDSd=>exact⟨⟨rfl,⟨_,rfl⟩,⟨_,rfl⟩⟩,⟨rfl,⟨_,rfl⟩,⟨_,rfl⟩⟩,⟨rfl,⟨_,rfl⟩,⟨_,rfl⟩⟩,⟨rfl,⟨_,rfl⟩,⟨_,rfl⟩⟩,trivial⟩);(case gKINDSe=>decide +kernel)
  (case gCOUNTSa=>k_is);(case gCOUNTSb=>k_is);(case gCOUNTSc=>decide +kernel);(case gCOUNTSd=>exact⟨⟨rfl,⟨_,rfl⟩,⟨_,rfl⟩⟩,⟨rfl,⟨_,rfl⟩,⟨_,rfl⟩⟩,⟨rfl,⟨_,rfl⟩,⟨_,rfl⟩⟩,trivial⟩);(case gCOUNTSe=>decide +kernel)
  (case xeS0=>k_is);(case xeS=>k_is)
  (case xNoTexth1=>k_is)
  (case xNoTexth2=>k_is)
  (case xNoTexth3=>k_is)
  (case xNoTexth4=>k_is)
  (case xNoTexth5=>k_is)
  (case xNoTexth6=>k_is)
  (case xNoTexth7=>k_is)
  (case xNoTexth8=>k_is)
  (case xNoTexth9=>k_is)
  (case xNoTexth10=>k_is)
  (case xNoTexth11=>k_is)
  (case xNoTexth12=>k_is)
  (case xNoTexth13=>k_is)
  (case xNoTexth14=>k_is)
  (case xNoTexth15=>exact L3.strKeys_of 1.9)
  (case xNoTexth16=>kernel_rfl)
  (case xNoTexth17=>k_is)
  (case xNoTexth18=>k_is)
  (case xNoTexth19=>k_is)
  (case xNoTexth20=>k_is)
  (case xNoTexti1=>k_is);(case xNoTexti2=>k_is);(case xNoTexti3=>exact 1.0);(case xNoTexti4=>exact⟨Or.inl rfl,Or.inl rfl⟩);(case xNoTexti5=>decide +kernel);(case xNoTexti6=>exact λus hl=>L3.len2 hl λ_ _=>rfl)

