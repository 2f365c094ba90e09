import PyProof.Rows.All
import Wide.All
import OpenK.AllK
import Wide.FinOn
import Lean
import PyProof.EqAt
import PyProof.EqKinds
import PyProof.TupleCall
import PyProof.StationsW
import PyProof.ExcClass2
import PyProof.ExcBaseAll.ValueError
import PyProof.InstStoreFacts
import PyProof.RulesAs
import PyProof.NsDelKeeps
import PyProof.P3Eq
import PyProof.P3In
import PyProof.ReprRoads
import PyProof.StrWalks
import PyProof.ListRange
import PyProof.ListStr
import PyProof.ConsumeWalk
import PyProof.MinMaxWalk
import PyProof.NeData
import PyProof.SliceStr2
import PyProof.Rows.SortStr
import PyProof.Rows.StrJoin2
import PyProof.Rows.SeqMore
import PyProof.SeqI3
import PyProof.StrLawsIn
import PyProof.ReprBulk
import PyProof.ListMulRoad
import PyProof.StrOps2
import PySem.Challenge.RW_lostpost_k10_refusals
import PyProof.ExcAttrAll.ValueError
import PyProof.ExcArgs
import KE.KIsAll
import PyProof.Rows.SortShellK
import KE.KSortTup
import PyProof.Rows.SetFrom
import PyProof.CollectIter
import PyProof.CollectStr
import PyProof.FactsAll.set
import KE.KDictOf
import PyProof.AttrMissHeap
import PyProof.DictWalks
import KE.KDictLaws
import PyProof.Draws
import KE.KRevIter
import PyProof.EnumStmt
import PyProof.JoinWalk
import KE.BitLaws
import PyProof.TupleOfSeq
import PySem.SetTable
import PyProof.SetScanFacts
import PyProof.TupleKey
import PyProof.IsRules
import PyProof.StrCalls6
import PyProof.StrLawsReplace
import PyProof.DictRoadsH
set_option Elab.async false
set_option linter.all false
set_option maxRecDepth 100000
namespace L2
open PySem PySem.Spec PyProof.Rows
abbrev Key := Sum Int Str
def keyIs : Key → Value → Bool
 | .inl k, v => Value.isInt k v
 | .inr x, v => Value.isStrOf x v
def keyH (w : World) : Key → Int
 | .inl k => hashInt k
 | .inr x => hashStr w x
theorem keyIs_shape : ∀ {k : Key} {v : Value}, keyIs k v = true → (∃ i t, k = Sum.inl i ∧ v = Value.int i t) ∨ (∃ x t, k = Sum.inr x ∧ v = Value.str x t)
 | .inl i, v, h => by
   obtain ⟨t, e⟩ := Value.isInt_shape (k := i) (v := v) h
   exact .inl ⟨i, t, rfl, e⟩
 | .inr x, v, h => by
   obtain ⟨t, e⟩ := Value.isStrOf_shape (x := x) (v := v) h
   exact .inr ⟨x, t, rfl, e⟩
theorem keyIs_int (i : Int) (t : Tok) : keyIs (.inl i) (.int i t) = true := by simp [keyIs, Value.isInt]
theorem keyIs_str (x : Str) (t : Tok) : keyIs (.inr x) (.str x t) = true := by simp [keyIs, Value.isStrOf]
theorem key_ll (a b : Int) : decide ((Sum.inl a : Key) = Sum.inl b) = (a == b) := by
 by_cases e : a = b
 · subst e; simp
 · have h : ¬ (Sum.inl a : Key) = Sum.inl b := fun q => e (Sum.inl.inj q)
   rw [decide_eq_false h]
   exact (beq_eq_false_iff_ne.mpr e).symm
theorem key_rr (a b : Str) : decide ((Sum.inr a : Key) = Sum.inr b) = decide (a = b) := by
 by_cases e : a = b
 · subst e; simp
 · have h : ¬ (Sum.inr a : Key) = Sum.inr b := fun q => e (Sum.inr.inj q)
   rw [decide_eq_false h, decide_eq_false e]
theorem key_lr (a : Int) (b : Str) : decide ((Sum.inl a : Key) = Sum.inr b) = false := decide_eq_false (fun q => nomatch q)
theorem key_rl (a : Str) (b : Int) : decide ((Sum.inr a : Key) = Sum.inl b) = false := decide_eq_false (fun q => nomatch q)
def mixKind (prog : Program) (w : World) : PySem.KeyKind prog w Key where
 is := keyIs
 hash := keyH w
 inj := fun v a b ha hb => by
   rcases keyIs_shape ha with ⟨i, t, rfl, rfl⟩ | ⟨x, t, rfl, rfl⟩
   · rcases keyIs_shape hb with ⟨j, u, rfl, e⟩ | ⟨y, u, rfl, e⟩
     · injection e with e1 _; rw [e1]
     · exact nomatch e
   · rcases keyIs_shape hb with ⟨j, u, rfl, e⟩ | ⟨y, u, rfl, e⟩
     · exact nomatch e
     · injection e with e1 _; rw [e1]
 byValue := fun k v h => by
   rcases keyIs_shape h with ⟨i, t, rfl, rfl⟩ | ⟨x, t, rfl, rfl⟩ <;> rfl
 pyHash := fun hv h => by
   rcases keyIs_shape hv with ⟨i, t, rfl, rfl⟩ | ⟨x, t, rfl, rfl⟩
   · exact wpAny_pyHash_int h
   · exact wpAny_pyHash_str h
 eqBool := fun hu hv h => by
   rcases keyIs_shape hu with ⟨i, t, rfl, rfl⟩ | ⟨x, t, rfl, rfl⟩
   · rcases keyIs_shape hv with ⟨j, u, rfl, rfl⟩ | ⟨y, u, rfl, rfl⟩
     · rw [key_ll] at h; exact wpAny_eqBool_int h
     · rw [key_lr] at h; exact SeqAt.EqAt.int_str i t y u _ _ _ _ h
   · rcases keyIs_shape hv with ⟨j, u, rfl, rfl⟩ | ⟨y, u, rfl, rfl⟩
     · rw [key_rl] at h; exact SeqAt.EqAt.str_int x t j u _ _ _ _ h
     · rw [key_rr] at h; exact wpAny_eqBool_str h
 «strs» := fun k x t v h => by
   rcases keyIs_shape h with ⟨i, u, rfl, e⟩ | ⟨y, u, rfl, e⟩
   · exact nomatch e
   · injection e with e1 _
     subst e1
     cases v <;> rfl
theorem mixKind_int (prog : Program) (w : World) (i : Int) (t : Tok) : (mixKind prog w).is (.inl i) (.int i t) = true := keyIs_int i t
theorem mixKind_str (prog : Program) (w : World) (x : Str) (t : Tok) : (mixKind prog w).is (.inr x) (.str x t) = true := keyIs_str x t
end L2
namespace L2
open PySem PySem.Spec PyProof.Rows
inductive V where
 | non | bl (b : Bool) | int (i : Int) | str (x : Str) | byt (b : Array UInt8) | flt (b : UInt64) | ref (a : Addr) | ty (n : String)
 deriving DecidableEq
def RelV : V → Value → Prop
 | .non, u => u = Value.none
 | .bl b, u => u = Value.bool b
 | .int i, u => ∃ t, u = Value.int i t
 | .str x, u => ∃ t, u = Value.str x t
 | .byt b, u => ∃ t, u = Value.bytes b t
 | .flt b, u => ∃ t, u = Value.float b t
 | .ref a, u => u = Value.ref a
 | .ty n, u => u = Value.type n
abbrev Vals : List V → List Value → Prop := Paired RelV
theorem Vals.length {xs : List V} {us : List Value} (r : Vals xs us) : xs.length = us.length := Paired.length r
theorem Vals.get : ∀ {xs : List V} {us : List Value} {i : Nat} {x : V}, Vals xs us → xs[i]? = some x → ∃ u, us[i]? = some u ∧ RelV x u
 | _, _, _, _, .nil, e => by simp at e
 | _, _, 0, _, .cons r _, e => by simp at e; subst e; exact ⟨_, rfl, r⟩
 | _, _, i + 1, x, .cons _ t, e => by
   obtain ⟨u, h1, h2⟩ := Vals.get (i := i) (x := x) t (by simpa using e)
   exact ⟨u, by simpa using h1, h2⟩
theorem Vals.append : ∀ {xs ys : List V} {us ws : List Value}, Vals xs us → Vals ys ws → Vals (xs ++ ys) (us ++ ws)
 | _, _, _, _, .nil, s => s
 | _, _, _, _, .cons r t, s => .cons r (Vals.append t s)
theorem Vals.take : ∀ {xs : List V} {us : List Value} (n : Nat), Vals xs us → Vals (xs.take n) (us.take n)
 | _, _, 0, _ => .nil
 | _, _, _ + 1, .nil => .nil
 | _, _, n + 1, .cons r t => .cons r (Vals.take n t)
theorem Vals.drop : ∀ {xs : List V} {us : List Value} (n : Nat), Vals xs us → Vals (xs.drop n) (us.drop n)
 | _, _, 0, r => r
 | _, _, _ + 1, .nil => .nil
 | _, _, n + 1, .cons _ t => Vals.drop n t
def RelO : Option V → Option Value → Prop
 | some v, some u => RelV v u
 | none, none => True
 | _, _ => False
def KV {κ : Type} : List (κ × V) → List (κ × Value) → Prop := Paired fun (p : κ × V) (q : κ × Value) => p.1 = q.1 ∧ RelV p.2 q.2
def kV : Key → V
 | .inl i => .int i
 | .inr x => .str x
inductive HO where
   | lst (xs : List V)
   | tup (xs : List V)
   | dK (kvs : List (Key × V)) | dT (kvs : List (List Key × V))
   | set (S : Int → Bool) (n : Nat)
   | ins (C dx : Addr) (fs : List (Str × V))
   | own (x : Addr)
   | xd (fs : List (Str × V))
   | met (f x : Addr)
   | rng (lo hi : Int)
   | frz (o : Obj) (u : HO)
   | tbl (ps : Array Value)
   | ext (φ : Heap → Prop)
abbrev Hp := Addr → Option HO
def upd (H : Hp) (a : Addr) (o : HO) : Hp := fun b => if b = a then some o else H b
theorem upd_same {H : Hp} {a : Addr} {o : HO} : upd H a o a = some o := by unfold upd; rw [if_pos rfl]
theorem upd_ne {H : Hp} {a b : Addr} {o : HO} (h : b ≠ a) : upd H a o b = H b := by unfold upd; rw [if_neg h]
theorem ne_of {H : Hp} {a b : Addr} {o u : HO} (h : H a = some o) (h' : H b = some u) (d : o ≠ u) : a ≠ b := by
 intro e; subst e; rw [h] at h'; exact d (Option.some.inj h')
theorem ne_of_none {H : Hp} {a b : Addr} {o : HO} (h : H a = some o) (h' : H b = none) : a ≠ b := by
 intro e; subst e; rw [h] at h'; cases h'
section
variable (P : Program) (w : World)
def ObjOk (H : Hp) (h : Heap) (a : Addr) : HO → Prop
 | .lst xs => xs.length ≤ sizeLine ∧ ∃ (its : List Value) (n : Nat), Vals xs its ∧ h.get? a = some { cls := .type "list", data := .seq its.toArray n }
 | .tup xs => xs.length ≤ sizeLine ∧ ∃ its : List Value, Vals xs its ∧ IsTup h a its.toArray
 | .dK kvs => kvs.length ≤ sizeLine ∧ (a == sysModules) = false ∧ ∃ vs, KV kvs vs ∧ h.DictOf (mixKind P w) a vs
 | .dT kvs => kvs.length ≤ sizeLine ∧ (a == sysModules) = false ∧ ∃ xs : List (List Key × Addr × Value),
     Paired (fun (p : List Key × V) (q : List Key × Addr × Value) => p.1 = q.1 ∧ H q.2.1 = some (.tup (p.1.map kV)) ∧ RelV p.2 q.2.2) kvs xs ∧
     ∃ o es ep, h.get? a = some o ∧ o.ExactDict ∧ o.data = .dict es ep ∧ es.toList = xs.map (entryOfKey (tupleKind (mixKind P w))) ∧ (xs.map (·.1)).Nodup
 | .set S n => h.SetOf (intKind P w) a S n
 | .ins C dx fs => H dx = some (.own a) ∧ fs.length ≤ 1000 ∧ dx ≠ a ∧ h.get? a = some (PySem.W.instObj C dx) ∧
     ∃ mA, h.Ns1 dx mA ∧ (∀ f, RelO (fs.lookup f) (mA f)) ∧ PySem.Within mA (fs.map (·.1))
 | .own _ => ∃ o, h.get? a = some o
 | .xd fs => ∃ mA, h.Ns1 a mA ∧ ∀ f, RelO (fs.lookup f) (mA f)
 | .rng lo hi => ∃ t u v, h.get? a = some { cls := .type "range", data := .fields #[.int lo t, .int hi u, .int 1 v] }
 | .frz o u => h.get? a = some o ∧ ObjOk H h a u
 | .tbl ps => h.get? a = some { cls := .none, data := .fields ps }
 | .met f x => h.get? a = some (PySem.W.methodObj (.ref f) (.ref x))
 | .ext φ => φ h ∧ (∃ o, h.get? a = some o) ∧ ∀ h1 h2 : Heap, φ h1 → (∀ o, h1.get? a = some o → h2.get? a = some o) → φ h2
def HOk (H : Hp) (h : Heap) : Prop := ∀ a o, H a = some o → ObjOk P w H h a o
end
section
variable {P : Program} {w : World} {H H' : Hp} {h h' : Heap} {a : Addr} {o : HO}
theorem ObjOk.lt (x : ObjOk P w H h a o) : a < h.objs.size := by
 cases o with
 | lst xs => obtain ⟨_, _, _, _, e⟩ := x; exact Heap.lt_size e
 | tup xs => obtain ⟨_, _, _, p⟩ := x; exact p.lt
 | dK kvs => obtain ⟨_, _, _, _, o, _, _, e, _⟩ := x; exact Heap.lt_size e
 | dT kvs => obtain ⟨_, _, _, _, o, _, _, e, _⟩ := x; exact Heap.lt_size e
 | set S n => obtain ⟨o, _, _, _, e, _⟩ := x; exact Heap.lt_size e
 | ins C dx fs => obtain ⟨_, _, _, e, _⟩ := x; exact Heap.lt_size e
 | own y => obtain ⟨_, e⟩ := x; exact Heap.lt_size e
 | xd fs => obtain ⟨_, ⟨_, _, _, e, _⟩, _⟩ := x; exact Heap.lt_size e
 | rng lo hi => obtain ⟨_, _, _, e⟩ := x; exact Heap.lt_size e
 | frz ob u => obtain ⟨e, _⟩ := x; exact Heap.lt_size e
 | tbl ps => exact Heap.lt_size (show h.get? a = some _ from x)
 | met f y => exact Heap.lt_size (show h.get? a = some _ from x)
 | ext φ => obtain ⟨_, ⟨_, e⟩, _⟩ := x; exact Heap.lt_size e
theorem Paired.mapP {α β : Type} {F G : α → β → Prop} : ∀ {l₁ : List α} {l₂ : List β}, Paired F l₁ l₂ → (∀ a b, F a b → G a b) → Paired G l₁ l₂
 | _, _, .nil, _ => .nil
 | _, _, .cons r t, f => .cons (f _ _ r) (Paired.mapP t f)
theorem ObjOk.stay (x : ObjOk P w H h a o) (k : ∀ b u, (b = a ∨ H b = some (.own a)) → h.get? b = some u → h'.get? b = some u)
   (ho : ∀ b, H b = some (.own a) → H' b = some (.own a)) (ht : ∀ b xs, H b = some (.tup xs) → H' b = some (.tup xs)) : ObjOk P w H' h' a o := by
 induction o with
 | lst xs => obtain ⟨z, its, n, r, e⟩ := x; exact ⟨z, its, n, r, k _ _ (.inl rfl) e⟩
 | tup xs => obtain ⟨z, its, r, ob, e, c⟩ := x; exact ⟨z, its, r, ob, k _ _ (.inl rfl) e, c⟩
 | dK kvs => obtain ⟨z, y, vs, r, ob, es, ep, e, c⟩ := x; exact ⟨z, y, vs, r, ob, es, ep, k _ _ (.inl rfl) e, c⟩
 | dT kvs =>
   obtain ⟨z, y, xs, r, ob, es, ep, e, c⟩ := x
   exact ⟨z, y, xs, Paired.mapP r fun p q z => ⟨z.1, ht _ _ z.2.1, z.2.2⟩, ob, es, ep, k _ _ (.inl rfl) e, c⟩
 | set S n => obtain ⟨ob, es, ep, t, e, c⟩ := x; exact ⟨ob, es, ep, t, k _ _ (.inl rfl) e, c⟩
 | ins C dx fs =>
   obtain ⟨d, z, ne, e, mA, ⟨od, es, ep, e2, c⟩, r⟩ := x
   exact ⟨ho _ d, z, ne, k _ _ (.inl rfl) e, mA, ⟨od, es, ep, k _ _ (.inr d) e2, c⟩, r⟩
 | own y => obtain ⟨ob, e⟩ := x; exact ⟨ob, k _ _ (.inl rfl) e⟩
 | xd fs => obtain ⟨mA, ⟨od, es, ep, e, c⟩, r⟩ := x; exact ⟨mA, ⟨od, es, ep, k _ _ (.inl rfl) e, c⟩, r⟩
 | rng lo hi => obtain ⟨t, u, v, e⟩ := x; exact ⟨t, u, v, k _ _ (.inl rfl) e⟩
 | frz ob u ih => obtain ⟨e, q⟩ := x; exact ⟨k _ _ (.inl rfl) e, ih q⟩
 | tbl ps =>
   have e : h.get? a = some { cls := .none, data := .fields ps } := x
   show h'.get? a = some { cls := .none, data := .fields ps }
   exact k a _ (.inl rfl) e
 | met f y =>
   have e : h.get? a = some (PySem.W.methodObj (.ref f) (.ref y)) := x
   show h'.get? a = some (PySem.W.methodObj (.ref f) (.ref y))
   exact k a _ (.inl rfl) e
 | ext φ => obtain ⟨p, ⟨o, e⟩, st⟩ := x; exact ⟨st _ _ p fun o q => k _ _ (.inl rfl) q, ⟨o, k _ _ (.inl rfl) e⟩, st⟩
theorem HOk.lt (x : HOk P w H h) (e : H a = some o) : a < h.objs.size := (x a o e).lt
theorem HOk.fresh (x : HOk P w H h) (e : h.objs.size ≤ a) : H a = none := by
 cases q : H a with
 | none => rfl
 | some u => exact absurd (Nat.lt_of_lt_of_le (x.lt q) e) (Nat.lt_irrefl _)
theorem HOk.kept (x : HOk P w H h) (k : ∀ b u, h.get? b = some u → h'.get? b = some u) : HOk P w H h' := fun a o e =>
 (x a o e).stay (fun b u _ q => k b u q) (fun _ q => q) fun _ _ q => q
theorem HOk.laid (x : HOk P w H h) (k : ∀ b u, h.get? b = some u → h'.get? b = some u) (hp : h.objs.size ≤ a) (new : ObjOk P w (upd H a o) h' a o) : HOk P w (upd H a o) h' := fun b u e => by
 have hn := x.fresh hp
 by_cases hb : b = a
 · subst hb; rw [upd_same] at e; cases e; exact new
 · rw [upd_ne hb] at e
   exact (x b u e).stay (fun c v _ q => k c v q) (fun c q => by rw [upd_ne (ne_of_none q hn)]; exact q) fun c xs q => by rw [upd_ne (ne_of_none q hn)]; exact q
end
def Rd (H : Hp) (a : Addr) (u : HO) : Prop := H a = some u ∨ ∃ o, H a = some (.frz o u)
theorem Rd.of {H : Hp} {a : Addr} {u : HO} (h : H a = some u) : Rd H a u := .inl h
theorem Rd.ok {P : Program} {w : World} {H : Hp} {h : Heap} {a : Addr} {u : HO} (r : Rd H a u) (x : HOk P w H h) : ObjOk P w H h a u := by
 rcases r with r | ⟨o, r⟩
 · exact x a u r
 · obtain ⟨_, q⟩ := x a _ r
   exact q
def Mut : Option HO → Prop
 | some (.lst _) => True
 | some (.dK _) => True
 | some (.dT _) => True
 | some (.set _ _) => True
 | some (.ins _ _ _) => True
 | some (.ext _) => True
 | _ => False
section
variable {P : Program} {w : World} {H : Hp} {h h' : Heap} {x e : Addr} {o' : HO}
theorem HOk.write (ok : HOk P w H h) (mu : Mut (H x)) (he : e = x ∨ H e = some (.own x)) (k : ∀ b u, b ≠ e → h.get? b = some u → h'.get? b = some u) (heo : ∃ u, h'.get? e = some u)
   (new : ObjOk P w (upd H x o') h' x o') : HOk P w (upd H x o') h' := fun b u q => by
 have nown : ∀ c y, H c = some (.own y) → c ≠ x := fun c y r z => by subst z; rw [r] at mu; exact mu
 have ntup : ∀ c xs, H c = some (.tup xs) → c ≠ x := fun c xs r z => by subst z; rw [r] at mu; exact mu
 by_cases hb : b = x
 · subst hb; rw [upd_same] at q; cases q; exact new
 · rw [upd_ne hb] at q
   by_cases hbe : b = e
   · have q' : H b = some (.own x) := by
       rcases he with z | z
       · exact absurd (hbe.trans z) hb
       · rw [hbe]; exact z
     rw [q] at q'; cases q'
     obtain ⟨v, hv⟩ := heo
     exact ⟨v, by rw [hbe]; exact hv⟩
   · refine (ok b u q).stay (fun c v hc r => k c v ?_ r) (fun c r => by rw [upd_ne (nown c b r)]; exact r) fun c xs r => by rw [upd_ne (ntup c xs r)]; exact r
     rcases hc with rfl | hc
     · exact hbe
     · rintro rfl
       rcases he with z | z
       · exact nown c b hc z
       · rw [hc] at z; cases z; exact hb rfl
end
structure Un (fs ex : List Addr) (H H' : Hp) (h h' : Heap) : Prop where
 keep : ∀ b o, h.get? b = some o → H b = none → b ∉ fs → b ∉ ex → h'.get? b = some o
 slot : ∀ b o, h.get? b = some o → H b = none → b ∈ fs → b ∉ ex → ∃ sl, h'.get? b = some { o with slots := sl }
 free : ∀ b o, h.get? b = some o → H b = none → b ∉ ex → H' b = none
 there : ∀ b o, h.get? b = some o → b ∉ ex → ∃ o', h'.get? b = some o'
 tups : ∀ b xs, H b = some (.tup xs) → H' b = some (.tup xs)
 frzs : ∀ b o u, H b = some (.frz o u) → H' b = some (.frz o u)
 tbls : ∀ b ps, H b = some (.tbl ps) → ∃ more, H' b = some (.tbl (ps ++ more))
section
variable {fs fs' ex ex' : List Addr} {H H1 H2 : Hp} {h h1 h2 h' : Heap} {a x e : Addr} {o : HO}
theorem Un.any (u : Un fs ex H H1 h h1) {b : Addr} {ob : Obj} (q : h.get? b = some ob) (n : H b = none) (hx : b ∉ ex) : ∃ sl, h1.get? b = some { ob with slots := sl } := by
 by_cases hb : b ∈ fs
 · exact u.slot b ob q n hb hx
 · exact ⟨ob.slots, u.keep b ob q n hb hx⟩
theorem Un.kept (k : ∀ b u, h.get? b = some u → h'.get? b = some u) : Un fs ex H H h h' :=
 ⟨fun b ob q _ _ _ => k b ob q, fun b ob q _ _ _ => ⟨ob.slots, k b ob q⟩, fun _ _ _ n _ => n, fun b ob q _ => ⟨ob, k b ob q⟩, fun _ _ q => q, fun _ _ _ q => q, fun _ ps q => ⟨#[], by rw [q]; simp⟩⟩
theorem Un.refl : Un fs ex H H h h := Un.kept fun _ _ q => q
theorem Un.laid (k : ∀ b u, h.get? b = some u → h'.get? b = some u) (hp : h.objs.size ≤ a) (hn : H a = none) : Un fs ex H (upd H a o) h h' where
 keep := fun b u q _ _ _ => k b u q
 slot := fun b u q _ _ _ => ⟨u.slots, k b u q⟩
 free := fun b u q n _ => by rw [upd_ne (Nat.ne_of_lt (Nat.lt_of_lt_of_le (Heap.lt_size q) hp))]; exact n
 there := fun b u q _ => ⟨u, k b u q⟩
 tups := fun b xs q => by rw [upd_ne (ne_of_none q hn)]; exact q
 frzs := fun b u xs q => by rw [upd_ne (ne_of_none q hn)]; exact q
 tbls := fun b ps q => ⟨#[], by rw [upd_ne (ne_of_none q hn), q]; simp⟩
theorem Un.write (mu : Mut (H x)) (he : e = x ∨ H e = some (.own x)) (k : ∀ b u, b ≠ e → h.get? b = some u → h'.get? b = some u) (heo : ∃ u, h'.get? e = some u) : Un fs ex H (upd H x o) h h' := by
 have hx : ∀ b, H b = none → b ≠ x := fun b n z => by subst z; rw [n] at mu; exact mu
 have hb : ∀ b, H b = none → b ≠ e := fun b n z => by
   subst z
   rcases he with r | r
   · exact hx b n r
   · rw [n] at r; cases r
 have hm : ∀ b u, H b = some u → ¬ Mut (some u) → b ≠ x := fun b u q nm z => by subst z; rw [q] at mu; exact nm mu
 refine ⟨fun b u q n _ _ => k b u (hb b n) q, fun b u q n _ _ => ⟨u.slots, k b u (hb b n) q⟩, fun b u q n _ => by rw [upd_ne (hx b n)]; exact n, fun b u q _ => ?_,
   fun b xs q => by rw [upd_ne (hm b _ q fun z => z)]; exact q, fun b u xs q => by rw [upd_ne (hm b _ q fun z => z)]; exact q, fun b ps q => ⟨#[], by rw [upd_ne (hm b _ q fun z => z), q]; simp⟩⟩
 by_cases hbe : b = e
 · subst hbe; exact heo
 · exact ⟨u, k b u hbe q⟩
end
def trk (h : Heap) (H : Hp) : List Addr := (List.range h.objs.size).filter fun a => (H a).isSome
def hidT (h : Heap) (H : Hp) : Heap := PySem.W.hideAll h (trk h H)
theorem hidT_size (h : Heap) (H : Hp) : (hidT h H).objs.size = h.objs.size := PySem.W.hideAll_size _ _
theorem hidT_get {h : Heap} {H : Hp} {b : Addr} {o : Obj} (e : h.get? b = some o) (n : H b = none) : (hidT h H).get? b = some o :=
 PySem.W.hideAll_get _ e fun hm => by
   have q : (H b).isSome = true := (List.mem_filter.mp hm).2
   rw [n] at q; simp at q
theorem of_hidT {h : Heap} {H : Hp} {b : Addr} {o : Obj} (e : (hidT h H).get? b = some o) : h.get? b = some o ∧ H b = none := by
 have e' : h.get? b = some o := PySem.W.of_hideAll (trk h H) e
 refine ⟨e', ?_⟩
 cases q : H b with
 | none => rfl
 | some x =>
   have hm : b ∈ trk h H := List.mem_filter.mpr ⟨List.mem_range.mpr (Heap.lt_size e'), by simp [q]⟩
   have z : (hidT h H).get? b = none := PySem.W.hideAll_none (trk h H) hm
   rw [z] at e; cases e
end L2
namespace L2
open PySem PySem.Spec PyProof.Rows
structure Mod (K : PySem.W.Frag) (mg : Str → Option Value) (base : Heap) : Prop where
 kin : K.In base
 glob : base.Ns mainGlobals mg
 blt : ∃ mb, base.Ns builtinsNs mb ∧ ∀ x : Str, x ≠ "__name__" → mb x = bootBuiltins x
 nolimit : base.NoLimit
structure Cx where
 prog : Program
 w : World
 K : PySem.W.Frag
 mg : Str → Option Value
 base : Heap
 A : Around
 N : List Str
 s₀ : Shared
 H₀ : Hp
 env : Env
 outer : List Env
 stack : List Env
 ex : List Addr
 fn : Str → Bool
 calm : Bool
 pn : List (Addr × Obj)
 xe : Value → Shared → Prop
def frs (l : List Env) : List Addr := l.filterMap (·.frame)
abbrev Cx.fs (X : Cx) : List Addr := frs X.outer
def Vis (sc : Scope) (x : Str) : Prop := sc.names.lookup x = some .local ∨ sc.names.lookup x = some .cell ∨ sc.names.lookup x = some .free
def Loc (sc : Scope) (x : Str) : Prop := sc.names.lookup x = some .local ∨ sc.names.lookup x = some .cell
def Look (env : Env) (h : Heap) (m : Str → Option Value) (x : Str) (u : Value) : Prop :=
 (env.kindOf x = some .local ∧ m x = some u) ∨ ((env.kindOf x = some .cell ∨ env.kindOf x = some .free) ∧ ∃ c, env.cells.lookup x = some c ∧ h.IsCell c (some u))
structure Cx.Ok (X : Cx) : Prop where
 mod : Mod X.K X.mg X.base
 kind : X.env.scope.kind = .function
 glob : X.env.globals = mainGlobals
 blt : X.env.builtins = builtinsNs
 above : X.s₀.heap.objs.size ≤ X.env.locals
 inj : ∀ x y c, X.env.cells.lookup x = some c → X.env.cells.lookup y = some c → x = y
 has : ∀ x, (X.env.kindOf x = some .cell ∨ X.env.kindOf x = some .free) → ∃ c, X.env.cells.lookup x = some c
 cab : ∀ x c, X.fn x = true → X.env.cells.lookup x = some c → X.s₀.heap.objs.size ≤ c
 hd : X.calm = true → X.A.handled = none
 frames : X.A.frames = some X.stack
 stk : X.stack = X.outer ∨ (X.stack = X.env :: X.outer ∧ X.env.frame = some X.env.locals)
 exf : ∀ b ∈ X.ex, b ≠ X.env.locals ∧ ∀ x c, X.env.cells.lookup x = some c → c ≠ b
 bs : ∀ b o, X.base.get? b = some o → X.s₀.heap.get? b = some o ∧ X.H₀ b = none
 bsz : X.base.objs.size ≤ X.s₀.heap.objs.size
 noex : ∀ b o, X.base.get? b = some o → b ∉ X.ex
 exfs : ∀ b ∈ X.ex, b ∉ X.fs
 funs : X.s₀.heap.FunFrames X.base X.outer
 frf : ∀ b ∈ X.fs, X.H₀ b = none
structure Inv (X : Cx) (pins : List (Addr × Obj)) (σ : List (Option V)) (H : Hp) (s : Shared) : Prop where
 ok : X.Ok
 os : s.os = X.s₀.os
 bare : AllBare s.gens
 base : Un X.fs X.ex X.H₀ H X.s₀.heap s.heap
 loc : ∃ m, s.heap.Ns X.env.locals m ∧ ∀ (i : Nat) (x : Str) (v : V), X.N[i]? = some x → σ[i]? = some (some v) → Vis X.env.scope x → ∃ u, RelV v u ∧ Look X.env s.heap m x u
 cell : ∀ x c, X.env.cells.lookup x = some c → ∃ v, s.heap.IsCell c v
 free : H X.env.locals = none
 freeC : ∀ x c, X.env.cells.lookup x = some c → H c = none
 pin : ∀ p ∈ X.pn ++ pins, s.heap.get? p.1 = some p.2 ∧ H p.1 = none ∧ p.1 ≠ X.env.locals ∧ p.1 ∉ X.fs ∧ ∀ v, p.2.data ≠ .cell v
 hok : HOk X.prog X.w H s.heap
 len : σ.length = X.N.length
section
variable {X : Cx} {pins : List (Addr × Obj)} {σ : List (Option V)} {H H' : Hp} {s : Shared} {h' : Heap}
theorem Cx.Ok.nofr (ok : X.Ok) {b : Addr} {o : Obj} (e : X.base.get? b = some o) : b ∉ X.fs := fun hb => by
 have := (ok.funs.mem hb).1
 rw [e] at this; cases this
theorem Inv.bs (I : Inv X pins σ H s) : ∀ b o, X.base.get? b = some o → s.heap.get? b = some o ∧ H b = none := fun b o e =>
 ⟨I.base.keep b o (I.ok.bs b o e).1 (I.ok.bs b o e).2 (I.ok.nofr e) (I.ok.noex b o e), I.base.free b o (I.ok.bs b o e).1 (I.ok.bs b o e).2 (I.ok.noex b o e)⟩
theorem Inv.bk (I : Inv X pins σ H s) : ∀ b o, X.base.get? b = some o → s.heap.get? b = some o := fun b o e => (I.bs b o e).1
theorem Inv.mod (I : Inv X pins σ H s) : Mod X.K X.mg X.base := I.ok.mod
theorem Inv.kIn (I : Inv X pins σ H s) : X.K.In s.heap := I.ok.mod.kin.keeps I.bk
theorem Inv.lt (I : Inv X pins σ H s) : X.env.locals < s.heap.objs.size := let ⟨_, hn, _⟩ := I.loc; hn.lt
theorem Inv.sz (I : Inv X pins σ H s) : X.s₀.heap.objs.size ≤ s.heap.objs.size := Nat.le_trans I.ok.above (Nat.le_of_lt I.lt)
theorem Inv.nofs (I : Inv X pins σ H s) {a : Addr} (h : s.heap.objs.size ≤ a) : a ∉ X.fs := fun hb => by
 obtain ⟨_, o, ho, _⟩ := I.ok.funs.mem hb
 exact absurd (Nat.lt_of_lt_of_le (Heap.lt_size ho) (Nat.le_trans I.sz h)) (Nat.lt_irrefl _)
theorem Inv.cne (I : Inv X pins σ H s) : ∀ x c, X.env.cells.lookup x = some c → c ≠ X.env.locals := fun x c e z => by
 obtain ⟨v, o, ho, hd⟩ := I.cell x c e
 obtain ⟨m, ⟨o', es, ep, ho', hd', _⟩, _⟩ := I.loc
 rw [z, ho'] at ho; cases ho; rw [hd'] at hd; cases hd
theorem Inv.funs (I : Inv X pins σ H s) : s.heap.FunFrames X.base X.outer := by
 have all : ∀ (l : List Env), (∀ b ∈ frs l, b ∈ X.fs) → X.s₀.heap.FunFrames X.base l → s.heap.FunFrames X.base l := by
   intro l
   induction l with
   | nil => intro _ _; trivial
   | cons env r ih =>
     intro hs hl
     obtain ⟨hk, ⟨L, o, hf, hn, ho, hd⟩, hr⟩ := hl
     have hL : L ∈ X.fs := hs L (by unfold frs; rw [List.filterMap_cons, hf]; exact List.mem_cons_self)
     obtain ⟨sl, e⟩ := I.base.slot L o ho (I.ok.frf L hL) hL fun z => I.ok.exfs L z hL
     exact ⟨hk, ⟨L, _, hf, hn, e, hd⟩, ih (fun b hb => hs b (by unfold frs; rw [List.filterMap_cons, hf]; exact List.mem_cons_of_mem _ hb)) hr⟩
 exact all X.outer (fun _ hb => hb) I.ok.funs
theorem Inv.stack (I : Inv X pins σ H s) : s.heap.FunFrames X.base X.stack := by
 rcases I.ok.stk with e | ⟨e, hf⟩
 · rw [e]; exact I.funs
 · rw [e]
   obtain ⟨m, hn, _⟩ := I.loc
   refine .cons (by rw [I.ok.kind]; decide) hf hn ?_ I.funs
   exact Heap.get?_none_of_le (Nat.le_trans I.ok.bsz I.ok.above)
theorem Inv.stkSub (I : Inv X pins σ H s) : ∀ b ∈ frs X.stack, b ∈ X.env.locals :: X.fs := fun b hb => by
 rcases I.ok.stk with e | ⟨e, hf⟩
 · rw [e] at hb; exact List.mem_cons_of_mem _ hb
 · rw [e] at hb
   unfold frs at hb
   rw [List.filterMap_cons, hf] at hb
   exact hb
theorem Inv.stkFree (I : Inv X pins σ H s) : ∀ b ∈ frs X.stack, H b = none := fun b hb => by
 rcases List.mem_cons.mp (I.stkSub b hb) with e | hb
 · rw [e]; exact I.free
 · obtain ⟨_, o, ho, _⟩ := I.ok.funs.mem hb
   exact I.base.free b o ho (I.ok.frf b hb) fun z => I.ok.exfs b z hb
theorem Inv.step {g' : Array GenState} {t' : Nat} {d' : Drawn} {ch : List Addr} (I : Inv X pins σ H s)
   (hch : ∀ b ∈ ch, (b ∈ X.ex ∨ X.s₀.heap.objs.size ≤ b) ∧ b ≠ X.env.locals ∧ (∀ x c, X.env.cells.lookup x = some c → c ≠ b) ∧ ∀ p ∈ X.pn ++ pins, p.1 ≠ b)
   (keep : ∀ b o, b ≠ X.env.locals → b ∉ X.fs → b ∉ ch → s.heap.get? b = some o → H b = none → h'.get? b = some o)
   (slot : ∀ b o, b ≠ X.env.locals → b ∈ X.fs → b ∉ ch → s.heap.get? b = some o → H b = none → ∃ sl, h'.get? b = some { o with slots := sl }) (free : ∀ b o, b ∉ ch → s.heap.get? b = some o → H b = none → H' b = none)
   (there : ∀ b o, b ∉ ch → s.heap.get? b = some o → ∃ o', h'.get? b = some o')
   (tups : ∀ b xs, H b = some (.tup xs) → H' b = some (.tup xs)) (frzs : ∀ b o u, H b = some (.frz o u) → H' b = some (.frz o u)) (tbls : ∀ b ps, H b = some (.tbl ps) → ∃ more, H' b = some (.tbl (ps ++ more)))
   (ns : ∀ m, s.heap.Ns X.env.locals m → h'.Ns X.env.locals m) (hok : HOk X.prog X.w H' h') (hg : AllBare g') :
   Inv X pins σ H' { s with heap := h', gens := g', drawn := d', toks := t' } := by
 have neL : ∀ b o, X.s₀.heap.get? b = some o → b ≠ X.env.locals := fun b o e => Nat.ne_of_lt (Nat.lt_of_lt_of_le (Heap.lt_size e) I.ok.above)
 have neC : ∀ b o, X.s₀.heap.get? b = some o → b ∉ X.ex → b ∉ ch := fun b o e hx hb => by
   rcases (hch b hb).1 with z | z
   · exact hx z
   · exact absurd (Nat.lt_of_lt_of_le (Heap.lt_size e) z) (Nat.lt_irrefl _)
 have cellK : ∀ x c, X.env.cells.lookup x = some c → ∀ v, s.heap.IsCell c v → h'.IsCell c v := fun x c e v ⟨o, ho, hd⟩ => by
   have nch : c ∉ ch := fun z => (hch c z).2.2.1 x c e rfl
   by_cases hc : c ∈ X.fs
   · obtain ⟨sl, q⟩ := slot c o (I.cne x c e) hc nch ho (I.freeC x c e)
     exact ⟨_, q, hd⟩
   · exact ⟨o, keep c o (I.cne x c e) hc nch ho (I.freeC x c e), hd⟩
 refine ⟨I.ok, I.os, hg, ⟨fun b o e n hb hx => ?_, fun b o e n hb hx => ?_, fun b o e n hx => ?_, fun b o e hx => ?_, fun b xs e => tups b xs (I.base.tups b xs e), fun b o xs e => frzs b o xs (I.base.frzs b o xs e), fun b ps e => ?_⟩, ?_, fun x c e => ?_, ?_, fun x c e => ?_, fun p hp => ?_, hok, I.len⟩
 · exact keep b o (neL b o e) hb (neC b o e hx) (I.base.keep b o e n hb hx) (I.base.free b o e n hx)
 · obtain ⟨sl, e1⟩ := I.base.slot b o e n hb hx
   obtain ⟨sl', e2⟩ := slot b _ (neL b o e) hb (neC b o e hx) e1 (I.base.free b o e n hx)
   exact ⟨sl', e2⟩
 · obtain ⟨o', e1⟩ := I.base.there b o e hx
   exact free b o' (neC b o e hx) e1 (I.base.free b o e n hx)
 · obtain ⟨o', e1⟩ := I.base.there b o e hx
   exact there b o' (neC b o e hx) e1
 · obtain ⟨m1, e1⟩ := I.base.tbls b ps e
   obtain ⟨m2, e2⟩ := tbls b _ e1
   exact ⟨m1 ++ m2, by rw [e2, Array.append_assoc]⟩
 · obtain ⟨m, hn, hl⟩ := I.loc
   refine ⟨m, ns m hn, fun i x v e1 e2 e3 => ?_⟩
   obtain ⟨u, r, l⟩ := hl i x v e1 e2 e3
   refine ⟨u, r, ?_⟩
   rcases l with l | ⟨k, c, e, z⟩
   · exact .inl l
   · exact .inr ⟨k, c, e, cellK x c e _ z⟩
 · obtain ⟨v, z⟩ := I.cell x c e
   exact ⟨v, cellK x c e v z⟩
 · obtain ⟨m, ⟨o, _, _, ho, _⟩, _⟩ := I.loc
   exact free _ o (fun z => (hch _ z).2.1 rfl) ho I.free
 · obtain ⟨v, o, ho, hd⟩ := I.cell x c e
   exact free c o (fun z => (hch c z).2.2.1 x c e rfl) ho (I.freeC x c e)
 · obtain ⟨e, n, ne, nf, d⟩ := I.pin p hp
   have nch : p.1 ∉ ch := fun z => (hch p.1 z).2.2.2 p hp rfl
   exact ⟨keep p.1 p.2 ne nf nch e n, free p.1 p.2 nch e n, ne, nf, d⟩
theorem Inv.un {t' : Nat} (I : Inv X pins σ H s) (u : Un X.fs [] H H' s.heap h') (hok : HOk X.prog X.w H' h') : Inv X pins σ H' { s with heap := h', toks := t' } := by
 obtain ⟨m, ⟨o, es, ep, ho, r⟩, _⟩ := id I.loc
 obtain ⟨sl, hL⟩ := u.any ho I.free (by simp)
 exact I.step (g' := s.gens) (d' := s.drawn) (ch := []) (fun _ z => nomatch z) (fun b o _ hb _ e n => u.keep b o e n hb (by simp)) (fun b o _ hb _ e n => u.slot b o e n hb (by simp)) (fun b o _ e n => u.free b o e n (by simp)) (fun b o _ e => u.there b o e (by simp)) u.tups u.frzs u.tbls (fun m' hm => by
   obtain ⟨o', es', ep', ho', r'⟩ := hm
   rw [ho] at ho'; cases ho'
   exact ⟨_, es', ep', hL, r'⟩) hok I.bare
theorem Inv.call {g' : Array GenState} {t' : Nat} {d' : Drawn} {ch : List Addr} (I : Inv X pins σ H s) (u : Un (frs X.stack) ch H H' s.heap h') (hok : HOk X.prog X.w H' h') (hg : AllBare g')
   (hch : ∀ b ∈ ch, (b ∈ X.ex ∨ X.s₀.heap.objs.size ≤ b) ∧ b ≠ X.env.locals ∧ (∀ x c, X.env.cells.lookup x = some c → c ≠ b) ∧ ∀ p ∈ X.pn ++ pins, p.1 ≠ b) :
   Inv X pins σ H' { s with heap := h', gens := g', drawn := d', toks := t' } := by
 obtain ⟨m, ⟨o, es, ep, ho, r⟩, _⟩ := id I.loc
 obtain ⟨sl, hL⟩ := u.any ho I.free fun z => (hch _ z).2.1 rfl
 exact I.step (ch := ch) hch (fun b o hL hb hc e n => u.keep b o e n (fun z => (List.mem_cons.mp (I.stkSub b z)).elim hL hb) hc) (fun b o _ _ hc e n => u.any e n hc) (fun b o hc e n => u.free b o e n hc) (fun b o hc e => u.there b o e hc) u.tups u.frzs u.tbls (fun m' hm => by
   obtain ⟨o', es', ep', ho', r'⟩ := hm
   rw [ho] at ho'; cases ho'
   exact ⟨_, es', ep', hL, r'⟩) hok hg
theorem Inv.turned {t' : Nat} {it : Addr} (I : Inv X pins σ H s) (k : ∀ b o, b ≠ it → s.heap.get? b = some o → h'.get? b = some o) (hn : H it = none) (hL : it ≠ X.env.locals)
   (h1 : it ∈ X.ex ∨ X.s₀.heap.objs.size ≤ it) (h2 : ∀ x c, X.env.cells.lookup x = some c → c ≠ it) (h3 : ∀ p ∈ X.pn ++ pins, p.1 ≠ it) : Inv X pins σ H { s with heap := h', toks := t' } := by
 have nit : ∀ b u, H b = some u → b ≠ it := fun b u e z => by rw [z, hn] at e; cases e
 refine I.step (g' := s.gens) (d' := s.drawn) (ch := [it]) (fun b hb => ?_) (fun b o _ _ hc e _ => k b o (fun z => hc (by simp [z])) e) (fun b o _ _ hc e _ => ⟨o.slots, k b o (fun z => hc (by simp [z])) e⟩) (fun _ _ _ _ n => n)
   (fun b o hc e => ⟨o, k b o (fun z => hc (by simp [z])) e⟩) (fun _ _ e => e) (fun _ _ _ e => e) (fun b ps e => ⟨#[], by rw [e]; simp⟩) (fun m hm => ?_) (fun b u e => ?_) I.bare
 · have e : b = it := by simpa using hb
   subst e
   exact ⟨h1, hL, h2, h3⟩
 · obtain ⟨o, es, ep, ho, r⟩ := hm
   exact ⟨o, es, ep, k _ o (Ne.symm hL) ho, r⟩
 · refine (I.hok b u e).stay (fun c v hc q => k c v ?_ q) (fun _ q => q) fun _ _ q => q
   rcases hc with z | z
   · rw [z]; exact nit b u e
   · exact nit c _ z
theorem Inv.tok (I : Inv X pins σ H s) (t : Nat) : Inv X pins σ H { s with toks := t } := I.un (h' := s.heap) (t' := t) Un.refl I.hok
theorem Inv.kept {t' : Nat} (I : Inv X pins σ H s) (k : ∀ b u, s.heap.get? b = some u → h'.get? b = some u) : Inv X pins σ H { s with heap := h', toks := t' } := I.un (Un.kept k) (I.hok.kept k)
theorem Inv.laid {a : Addr} {o : HO} {t' : Nat} (I : Inv X pins σ H s) (k : ∀ b u, s.heap.get? b = some u → h'.get? b = some u) (hp : s.heap.objs.size ≤ a) (new : ObjOk X.prog X.w (upd H a o) h' a o) :
   Inv X pins σ (upd H a o) { s with heap := h', toks := t' } := I.un (Un.laid k hp (I.hok.fresh hp)) (I.hok.laid k hp new)
theorem Inv.write {x e : Addr} {o : HO} {t' : Nat} (I : Inv X pins σ H s) (mu : Mut (H x)) (he : e = x ∨ H e = some (.own x)) (k : ∀ b u, b ≠ e → s.heap.get? b = some u → h'.get? b = some u) (heo : ∃ u, h'.get? e = some u)
   (new : ObjOk X.prog X.w (upd H x o) h' x o) : Inv X pins σ (upd H x o) { s with heap := h', toks := t' } := I.un (Un.write mu he k heo) (I.hok.write mu he k heo new)
theorem Inv.weak {σ' : List (Option V)} (I : Inv X pins σ H s) (hl : σ'.length = σ.length) (w : ∀ (i : Nat) v, σ'[i]? = some (some v) → σ[i]? = some (some v)) : Inv X pins σ' H s :=
 ⟨I.ok, I.os, I.bare, I.base, let ⟨m, hn, hl'⟩ := I.loc; ⟨m, hn, fun i x v e1 e2 e3 => hl' i x v e1 (w i v e2) e3⟩, I.cell, I.free, I.freeC, I.pin, I.hok, hl.trans I.len⟩
theorem Inv.pins_of {pins' : List (Addr × Obj)} (I : Inv X pins σ H s) (h : ∀ p ∈ pins', s.heap.get? p.1 = some p.2 ∧ H p.1 = none ∧ p.1 ≠ X.env.locals ∧ p.1 ∉ X.fs ∧ ∀ v, p.2.data ≠ .cell v) : Inv X pins' σ H s :=
 ⟨I.ok, I.os, I.bare, I.base, I.loc, I.cell, I.free, I.freeC, fun p hp => (List.mem_append.mp hp).elim (fun z => I.pin p (List.mem_append_left _ z)) (h p), I.hok, I.len⟩
theorem nodup_ix {N : List Str} (hN : N.Nodup) {i j : Nat} {x : Str} (a : N[i]? = some x) (b : N[j]? = some x) : i = j := by
 obtain ⟨h1, e1⟩ := List.getElem?_eq_some_iff.mp a
 obtain ⟨h2, e2⟩ := List.getElem?_eq_some_iff.mp b
 exact (List.getElem_inj hN).mp (e1.trans e2.symm)
theorem store_ok2 {M : Model} {A : Around} {E : Value → Shared → Prop} {i : Nat} {x : Str} {v : V} {u : Value} {Q : Unit → Shared → Prop} (I : Inv X pins σ H s) (hN : X.N.Nodup) (hi : X.N[i]? = some x) (hx : Loc X.env.scope x) (r : RelV v u)
   (h : ∀ s', Inv X pins (σ.set i (some v)) H s' → (∃ a, Heap.SameBut a s.heap s'.heap ∧ (a = X.env.locals ∨ X.env.cells.lookup x = some a)) → Q () s') (hf : X.fn x = true ∨ X.env.scope.names.lookup x = some .local := by first | exact .inl rfl | exact .inr rfl | assumption) : wpAny M A (storeName X.env x u) Q E s := by
 obtain ⟨m, hn, hl⟩ := id I.loc
 have hcls : (X.env.scope.kind == .class || (X.env.scope.kind == .module && X.env.locals != X.env.globals)) = false := by rw [I.ok.kind]; rfl
 have hiσ : i < σ.length := by rw [I.len]; exact (List.getElem?_eq_some_iff.mp hi).1
 have cne := I.cne
 have tracked : ∀ {a : Addr} {h' : Heap}, (∃ o, s.heap.get? a = some o ∧ H a = none) → Heap.SameBut a s.heap h' → HOk X.prog X.w H h' := fun {a h'} ha hs b ob e => by
   obtain ⟨_, _, hfree⟩ := ha
   refine (I.hok b ob e).stay (fun c w' hc q => (hs.2 c ?_).trans q) (fun _ q => q) fun _ _ q => q
   rintro rfl
   rcases hc with rfl | hc
   · rw [hfree] at e; cases e
   · rw [hfree] at hc; cases hc
 rcases hx with hk | hk
 · refine wpAny_storeName_local hk hn (fun h' hn' hs => ?_) hcls
   obtain ⟨oL, _, _, hoL, _⟩ := id hn
   refine h _ ⟨I.ok, I.os, I.bare, ⟨fun b o e n hb hx => ?_, fun b o e n hb hx => ?_, I.base.free, fun b o e hx => ?_, I.base.tups, I.base.frzs, I.base.tbls⟩, ⟨_, hn', fun j y v' e1 e2 e3 => ?_⟩, fun y c e => ?_, I.free, I.freeC, fun p hp => ?_, tracked ⟨oL, hoL, I.free⟩ hs, by simpa using I.len⟩ ⟨_, hs, .inl rfl⟩
   · exact (hs.2 b (Nat.ne_of_lt (Nat.lt_of_lt_of_le (Heap.lt_size e) I.ok.above))).trans (I.base.keep b o e n hb hx)
   · obtain ⟨sl, e1⟩ := I.base.slot b o e n hb hx
     exact ⟨sl, (hs.2 b (Nat.ne_of_lt (Nat.lt_of_lt_of_le (Heap.lt_size e) I.ok.above))).trans e1⟩
   · obtain ⟨o', e1⟩ := I.base.there b o e hx
     exact ⟨o', (hs.2 b (Nat.ne_of_lt (Nat.lt_of_lt_of_le (Heap.lt_size e) I.ok.above))).trans e1⟩
   · by_cases hj : j = i
     · subst hj
       rw [hi] at e1; cases e1
       rw [List.getElem?_set_self hiσ] at e2
       cases e2
       exact ⟨u, r, .inl ⟨hk, by simp⟩⟩
     · rw [List.getElem?_set_ne (Ne.symm hj)] at e2
       obtain ⟨u', r', q⟩ := hl j y v' e1 e2 e3
       refine ⟨u', r', ?_⟩
       rcases q with ⟨k, e⟩ | ⟨k, c, e, z⟩
       · refine .inl ⟨k, ?_⟩
         have : y ≠ x := fun e => hj (nodup_ix hN e1 (e ▸ hi))
         simp [this, e]
       · exact .inr ⟨k, c, e, z.sameBut hs (cne y c e)⟩
   · obtain ⟨w', z⟩ := I.cell y c e
     exact ⟨w', z.sameBut hs (cne y c e)⟩
   · obtain ⟨e, n, ne, nf, d⟩ := I.pin p hp
     exact ⟨(hs.2 p.1 ne).trans e, n, ne, nf, d⟩
 · have hfn : X.fn x = true := by
     rcases hf with z | z
     · exact z
     · rw [z] at hk; cases hk
   obtain ⟨c, hc⟩ := I.ok.has x (.inl hk)
   obtain ⟨w', z⟩ := I.cell x c hc
   refine wpAny_storeName_cell I.ok.kind hk hc z (fun h' hc' hs => ?_)
   obtain ⟨oc, hoc, hocd⟩ := id z
   refine h { s with heap := h' } ⟨I.ok, I.os, I.bare, ⟨fun b o e n hb hx => ?_, fun b o e n hb hx => ?_, I.base.free, fun b o e hx => ?_, I.base.tups, I.base.frzs, I.base.tbls⟩, ⟨m, hn.sameBut hs (Ne.symm (cne x c hc)), fun j y v' e1 e2 e3 => ?_⟩, fun y c' e => ?_, I.free, I.freeC, fun p hp => ?_, tracked ⟨oc, hoc, I.freeC x c hc⟩ hs, by simpa using I.len⟩ ⟨c, hs, .inr hc⟩
   · exact (hs.2 b (Nat.ne_of_lt (Nat.lt_of_lt_of_le (Heap.lt_size e) (I.ok.cab x c hfn hc)))).trans (I.base.keep b o e n hb hx)
   · obtain ⟨sl, e1⟩ := I.base.slot b o e n hb hx
     exact ⟨sl, (hs.2 b (Nat.ne_of_lt (Nat.lt_of_lt_of_le (Heap.lt_size e) (I.ok.cab x c hfn hc)))).trans e1⟩
   · obtain ⟨o', e1⟩ := I.base.there b o e hx
     exact ⟨o', (hs.2 b (Nat.ne_of_lt (Nat.lt_of_lt_of_le (Heap.lt_size e) (I.ok.cab x c hfn hc)))).trans e1⟩
   · by_cases hj : j = i
     · subst hj
       rw [hi] at e1; cases e1
       rw [List.getElem?_set_self hiσ] at e2
       cases e2
       exact ⟨u, r, .inr ⟨.inl hk, c, hc, hc'⟩⟩
     · rw [List.getElem?_set_ne (Ne.symm hj)] at e2
       obtain ⟨u', r', q⟩ := hl j y v' e1 e2 e3
       refine ⟨u', r', ?_⟩
       rcases q with q | ⟨k, c', e, z'⟩
       · exact .inl q
       · refine .inr ⟨k, c', e, z'.sameBut hs ?_⟩
         rintro rfl
         exact hj (nodup_ix hN e1 (I.ok.inj _ _ _ e hc ▸ hi))
   · by_cases hcc : c' = c
     · subst hcc; exact ⟨_, hc'⟩
     · obtain ⟨w2, z2⟩ := I.cell y c' e
       exact ⟨w2, z2.sameBut hs hcc⟩
   · obtain ⟨e, n, ne, nf, d⟩ := I.pin p hp
     refine ⟨(hs.2 p.1 ?_).trans e, n, ne, nf, d⟩
     intro q
     rw [q, hoc] at e
     have q' : oc = p.2 := Option.some.inj e
     exact d w' (by rw [← q']; exact hocd)
theorem store_ok {M : Model} {A : Around} {E : Value → Shared → Prop} {i : Nat} {x : Str} {v : V} {u : Value} {Q : Unit → Shared → Prop} (I : Inv X pins σ H s) (hN : X.N.Nodup) (hi : X.N[i]? = some x) (hx : Loc X.env.scope x) (r : RelV v u)
   (h : ∀ s', Inv X pins (σ.set i (some v)) H s' → Q () s') (hf : X.fn x = true ∨ X.env.scope.names.lookup x = some .local := by first | exact .inl rfl | exact .inr rfl | assumption) : wpAny M A (storeName X.env x u) Q E s :=
 store_ok2 I hN hi hx r (fun s' I' _ => h s' I') hf
theorem Inv.call' {s' : Shared} {ch : List Addr} (I : Inv X pins σ H s) (ho : s'.os = s.os) (u : Un (frs X.stack) ch H H' s.heap s'.heap) (hok : HOk X.prog X.w H' s'.heap) (hg : AllBare s'.gens)
   (hch : ∀ b ∈ ch, (b ∈ X.ex ∨ X.s₀.heap.objs.size ≤ b) ∧ b ≠ X.env.locals ∧ (∀ x c, X.env.cells.lookup x = some c → c ≠ b) ∧ ∀ p ∈ X.pn ++ pins, p.1 ≠ b) : Inv X pins σ H' s' := by
 obtain ⟨h', g', d', t', o'⟩ := s'
 have e : o' = s.os := ho
 subst e
 exact I.call (g' := g') (t' := t') (d' := d') u hok hg hch
end
abbrev XK := Value → Option Addr → Hp → Prop
abbrev St := List (Option V)
abbrev VK := V → Hp → Prop
abbrev TE := St → Hp → VK → Prop
abbrev TT := St → Hp → (Bool → Hp → Prop) → Prop
abbrev TA := St → Hp → (List V → Hp → Prop) → Prop
structure Ends where
 nx : St → Hp → Prop
 rt : VK
 bk : St → Hp → Prop := fun _ _ => False
 ct : St → Hp → Prop := fun _ _ => False
abbrev TS := Ends → St → Hp → Prop
def EP (X : Cx) (pins : List (Addr × Obj)) (σ : St) (Q : VK) (u : Value) (s' : Shared) : Prop := ∃ v H', Inv X pins σ H' s' ∧ RelV v u ∧ Q v H'
def TP (X : Cx) (pins : List (Addr × Obj)) (σ : St) (Q : Bool → Hp → Prop) (b : Bool) (s' : Shared) : Prop := ∃ H', Inv X pins σ H' s' ∧ Q b H'
def AP (X : Cx) (pins : List (Addr × Obj)) (σ : St) (Q : List V → Hp → Prop) (us : List Value) (s' : Shared) : Prop := ∃ vs H', Inv X pins σ H' s' ∧ Vals vs us ∧ Q vs H'
def SP (X : Cx) (pins : List (Addr × Obj)) (D : Ends) (f : Flow) (s' : Shared) : Prop :=
 match f with
 | .next => ∃ σ' H', Inv X pins σ' H' s' ∧ D.nx σ' H'
 | .brk => ∃ σ' H', Inv X pins σ' H' s' ∧ D.bk σ' H'
 | .cont => ∃ σ' H', Inv X pins σ' H' s' ∧ D.ct σ' H'
 | .ret u => ∃ v σ' H', Inv X pins σ' H' s' ∧ RelV v u ∧ D.rt v H'
def PE (X : Cx) (e : Expr) (t : TE) : Prop :=
 ∀ (pins : List (Addr × Obj)) (s : Shared) (σ : St) (H : Hp) (Q : VK), Inv X pins σ H s → t σ H Q → wpAny (model X.prog X.w) X.A (eval e X.env) (EP X pins σ Q) X.xe s
def PT (X : Cx) (e : Expr) (t : TT) : Prop :=
 ∀ (pins : List (Addr × Obj)) (s : Shared) (σ : St) (H : Hp) (Q : Bool → Hp → Prop), Inv X pins σ H s → t σ H Q → wpAny (model X.prog X.w) X.A (isTrue e X.env (eval e X.env)) (TP X pins σ Q) X.xe s
def PW (X : Cx) (e : Expr) (t : TT) : Prop :=
 ∀ (whole : Sem Value) (pins : List (Addr × Obj)) (s : Shared) (σ : St) (H : Hp) (Q : Bool → Hp → Prop), Inv X pins σ H s → t σ H Q → wpAny (model X.prog X.w) X.A (isTrue e X.env whole) (TP X pins σ Q) X.xe s
theorem PW.pt {X : Cx} {e : Expr} {t : TT} (h : PW X e t) : PT X e t := h _
def PA (X : Cx) (es : List Expr) (t : TA) : Prop :=
 ∀ (pos : Pos) (pins : List (Addr × Obj)) (s : Shared) (σ : St) (H : Hp) (Q : List V → Hp → Prop), Inv X pins σ H s → t σ H Q → wpAny (model X.prog X.w) X.A (spliced (backTo pos (starEach es X.env))) (AP X pins σ Q) X.xe s
def PS (X : Cx) (st : Stmt) (t : TS) : Prop :=
 ∀ (pins : List (Addr × Obj)) (s : Shared) (σ : St) (H : Hp) (D : Ends), Inv X pins σ H s → t D σ H → wpAny (model X.prog X.w) X.A (exec st X.env) (SP X pins D) X.xe s
def PSs (X : Cx) (st : List Stmt) (t : TS) : Prop :=
 ∀ (pins : List (Addr × Obj)) (s : Shared) (σ : St) (H : Hp) (D : Ends), Inv X pins σ H s → t D σ H → wpAny (model X.prog X.w) X.A (execs st X.env) (SP X pins D) X.xe s
theorem thn {α : Type} {t : Sem α} {Q Q' : α → Shared → Prop} {M : Model} {A : Around} {E : Value → Shared → Prop} {s : Shared} (h : wpAny M A t Q E s) (hQ : ∀ a s, Q a s → Q' a s) : wpAny M A t Q' E s := wpAny_mono h hQ fun _ _ x => x
end L2
namespace L2
open PySem PySem.Spec PyProof.Rows
section
variable {X : Cx}
def tVar (i : Nat) : TE := fun σ H Q => ∃ v, σ[i]? = some (some v) ∧ Q v H
def tC (v : V) : TE := fun _ H Q => Q v H
theorem pe_var {i : Nat} {x : Str} {pos : Pos} (hN : X.N[i]? = some x) (hv : Vis X.env.scope x) (hd : (x == ("__debug__" : Str)) = false := by decide) (hcd : (x == ("__classdict__" : Str)) = false := by decide) : PE X (.Name x pos) (tVar i) := by
 intro pins s σ H Q I h
 obtain ⟨v, e, h⟩ := h
 obtain ⟨m, hn, hl⟩ := I.loc
 obtain ⟨u, r, l⟩ := hl i x v hN e hv
 have fin : EP X pins σ Q u s := ⟨v, H, I, r, h⟩
 rcases l with ⟨hk, hm⟩ | ⟨hk, c, hc, hcell⟩
 · exact wpAny_Name (wpAny_loadName_local I.ok.kind hk hn hm fin) hd
 · rcases hk with hk | hk
   · exact wpAny_Name (wpAny_loadName_cell I.ok.kind hk hc hcell fin) hd
   · exact wpAny_Name (wpAny_loadName_free I.ok.kind hk hc hcell fin hcd) hd
theorem pe_int {i j pos} : PE X (.Constant (.int i) j pos) (tC (.int i)) := fun _ _ _ H _ I h => wpAny_Constant_int ⟨.int i, H, I.tok _, ⟨_, rfl⟩, h⟩
theorem pe_bl {b j pos} : PE X (.Constant (.bool b) j pos) (tC (.bl b)) := fun _ _ _ H _ I h => Constant_bool ⟨.bl b, H, I, rfl, h⟩
theorem pe_str {x j pos} : PE X (.Constant (.str x) j pos) (tC (.str x)) := fun _ _ _ H _ I h => Calls.Constant_str ⟨.str x, H, I.tok _, ⟨_, rfl⟩, h⟩
def Gl (X : Cx) (x : Str) : Prop := X.env.kindOf x = some .globalImplicit
theorem ld_glob {E : Value → Shared → Prop} {pins : List (Addr × Obj)} {s : Shared} {σ : St} {H : Hp} {x : Str} {u : Value} {pos : Pos} {Q : Value → Shared → Prop} (I : Inv X pins σ H s) (hg : Gl X x) (hm : X.mg x = some u) (h : Q u s)
   (hd : (x == ("__debug__" : Str)) = false := by decide) : wpAny (model X.prog X.w) X.A (eval (.Name x pos) X.env) Q E s :=
 Calls.Name_function_global I.ok.kind hg (Calls.loadGlobal_global (by rw [I.ok.glob]; exact I.mod.glob.keeps I.bk) hm h) hd
theorem ld_blt {E : Value → Shared → Prop} {pins : List (Addr × Obj)} {s : Shared} {σ : St} {H : Hp} {x : Str} {u : Value} {pos : Pos} {Q : Value → Shared → Prop} (I : Inv X pins σ H s) (hg : Gl X x) (hm : X.mg x = none) (hv : bootBuiltins x = some u) (h : Q u s)
   (hn : x ≠ "__name__" := by decide) (hd : (x == ("__debug__" : Str)) = false := by decide) : wpAny (model X.prog X.w) X.A (eval (.Name x pos) X.env) Q E s := by
 obtain ⟨mb, h1, h2⟩ := I.mod.blt
 exact Calls.Name_function_global I.ok.kind hg (Calls.loadGlobal_builtin (by rw [I.ok.glob]; exact I.mod.glob.keeps I.bk) hm (by rw [I.ok.blt]; exact h1.keeps I.bk) ((h2 x hn).trans hv) h) hd
variable {a b : Expr} {ta tb : TE} {pos : Pos}
def tB (t : TE) : TT := fun σ H Q => t σ H fun x H1 => ∃ c, x = .bl c ∧ Q c H1
theorem pt_val {e : Expr} {t : TE} (h : PE X e t) (he : ∀ whole, isTrue e X.env whole = (do let v ← whole; standAt e.pos; holding [v] (truthy v)) := by intro _; rfl) : PT X e (tB t) := by
 intro pins s σ H Q I hw
 refine isTrue_plain (thn (h pins s σ H _ I hw) fun v s1 ⟨x, H1, I1, r1, q1⟩ => ?_) (he _)
 obtain ⟨d, rfl, q⟩ := q1
 cases r1
 exact wpAny_truthy_bool ⟨H1, I1, q⟩
variable {tA tB' : TT} {rest : List Expr}
def tAnd (t u : TT) : TT := fun σ H Q => t σ H fun c H1 => if c = true then u σ H1 Q else Q false H1
def tOr (t u : TT) : TT := fun σ H Q => t σ H fun c H1 => if c = true then Q true H1 else u σ H1 Q
def tNot (t : TT) : TT := fun σ H Q => t σ H fun c H1 => Q (!c) H1
theorem pw_and1 (ha : PT X a tA) : PW X (.BoolOp .And [a] pos) tA := by
 intro wh pins s σ H Q I h
 refine isTrue_and (thn (ha pins s σ H Q I h) fun c s1 e => ?_)
 cases c with
 | true => exact isTrue_and_nil e
 | false => exact e
theorem pw_or1 (ha : PT X a tA) : PW X (.BoolOp .Or [a] pos) tA := by
 intro wh pins s σ H Q I h
 refine isTrue_or (thn (ha pins s σ H Q I h) fun c s1 e => ?_)
 cases c with
 | false => exact isTrue_or_nil e
 | true => exact e
theorem pw_and (ha : PT X a tA) (hb : PW X (.BoolOp .And (b :: rest) pos) tB') : PW X (.BoolOp .And (a :: b :: rest) pos) (tAnd tA tB') := by
 intro wh pins s σ H Q I h
 refine isTrue_and (thn (ha pins s σ H _ I h) fun c s1 ⟨H1, I1, q1⟩ => ?_)
 cases c with
 | true => exact hb wh pins s1 σ H1 Q I1 q1
 | false => exact ⟨H1, I1, q1⟩
theorem pw_or (ha : PT X a tA) (hb : PW X (.BoolOp .Or (b :: rest) pos) tB') : PW X (.BoolOp .Or (a :: b :: rest) pos) (tOr tA tB') := by
 intro wh pins s σ H Q I h
 refine isTrue_or (thn (ha pins s σ H _ I h) fun c s1 ⟨H1, I1, q1⟩ => ?_)
 cases c with
 | true => exact ⟨H1, I1, q1⟩
 | false => exact hb wh pins s1 σ H1 Q I1 q1
theorem pt_not (ha : PT X a tA) : PT X (.UnaryOp .Not a pos) (tNot tA) := by
 intro pins s σ H Q I h
 exact isTrue_not (ha pins s σ H (fun c H1 => Q (!c) H1) I h)
end
end L2
namespace L2
open PySem PySem.Spec PyProof.Rows
def SqL (K : PySem.W.Frag) (H : Hp) (a : Addr) (xs : List V) : Prop :=
 Rd H a (.lst xs) ∨
   ∃ (o : Obj) (its : Array Value) (n : Nat), K.lookup a = some o ∧ o.cls = .type "list" ∧ o.dict = none ∧ o.data = .seq its n ∧ its.size ≤ sizeLine ∧ Vals xs its.toList
def SqT (K : PySem.W.Frag) (H : Hp) (a : Addr) (xs : List V) : Prop :=
 Rd H a (.tup xs) ∨
   ∃ (o : Obj) (its : Array Value) (n : Nat), K.lookup a = some o ∧ o.cls = .type "tuple" ∧ o.data = .seq its n ∧ its.size ≤ sizeLine ∧ Vals xs its.toList
def absV : Value → Option V
 | .none => some .non
 | .bool b => some (.bl b)
 | .int i _ => some (.int i)
 | .str x _ => some (.str x)
 | .bytes b _ => some (.byt b)
 | .float b _ => some (.flt b)
 | .ref a => some (.ref a)
 | .type n => some (.ty n)
 | _ => none
theorem RelV.abs {x : V} {u : Value} (r : RelV x u) : absV u = some x := by
 cases x with
 | non => cases r; rfl
 | bl _ => cases r; rfl
 | int _ => obtain ⟨t, rfl⟩ := r; rfl
 | str _ => obtain ⟨t, rfl⟩ := r; rfl
 | byt _ => obtain ⟨t, rfl⟩ := r; rfl
 | flt _ => obtain ⟨t, rfl⟩ := r; rfl
 | ref _ => cases r; rfl
 | ty _ => cases r; rfl
theorem RelV.inj {x y : V} {u : Value} (r : RelV x u) (q : RelV y u) : x = y := Option.some.inj (r.abs.symm.trans q.abs)
theorem Vals.inj : ∀ {xs ys : List V} {us : List Value}, Vals xs us → Vals ys us → xs = ys
 | _, _, _, .nil, .nil => rfl
 | _, _, _, .cons r t, .cons r' t' => by rw [r.inj r', Vals.inj t t']
section
variable {X : Cx} {pins : List (Addr × Obj)} {σ : St} {H : Hp} {s : Shared} {a : Addr} {xs ys : List V}
theorem SqL.of {K : PySem.W.Frag} (h : H a = some (.lst xs)) : SqL K H a xs := .inl (.inl h)
theorem SqT.of {K : PySem.W.Frag} (h : H a = some (.tup xs)) : SqT K H a xs := .inl (.inl h)
theorem Inv.list (I : Inv X pins σ H s) (h : SqL X.K H a xs) : ∃ its : List Value, Vals xs its ∧ PlainL s.heap a its.toArray ∧ xs.length ≤ sizeLine := by
 rcases h with h | ⟨o, its, n, hk, hc, hd, hs, hz, r⟩
 · obtain ⟨z, its, n, r, e⟩ := h.ok I.hok
   exact ⟨its, r, ⟨_, n, e, rfl, rfl, rfl⟩, z⟩
 · refine ⟨its.toList, r, ⟨o, n, I.kIn a o hk, hc, hd, by simpa using hs⟩, ?_⟩
   have e := r.length
   simp only [Array.length_toList] at e
   omega
theorem Inv.tuple (I : Inv X pins σ H s) (h : SqT X.K H a xs) : ∃ its : List Value, Vals xs its ∧ IsTup s.heap a its.toArray ∧ xs.length ≤ sizeLine := by
 rcases h with h | ⟨o, its, n, hk, hc, hs, hz, r⟩
 · obtain ⟨z, its, r, p⟩ := h.ok I.hok
   exact ⟨its, r, p, z⟩
 · refine ⟨its.toList, r, ⟨o, I.kIn a o hk, hc, n, by simpa using hs⟩, ?_⟩
   have e := r.length
   simp only [Array.length_toList] at e
   omega
theorem Inv.list_inj (I : Inv X pins σ H s) (h : SqL X.K H a xs) (h' : SqL X.K H a ys) : xs = ys := by
 obtain ⟨its, r, ⟨o, n, e, _, _, d⟩, _⟩ := I.list h
 obtain ⟨its', r', ⟨o', n', e', _, _, d'⟩, _⟩ := I.list h'
 rw [e] at e'; cases e'
 rw [d] at d'
 injection d' with d1 _
 have : its = its' := by simpa using congrArg Array.toList d1
 subst this
 exact r.inj r'
theorem Inv.tuple_inj (I : Inv X pins σ H s) (h : SqT X.K H a xs) (h' : SqT X.K H a ys) : xs = ys := by
 obtain ⟨its, r, ⟨o, e, _, n, d⟩, _⟩ := I.tuple h
 obtain ⟨its', r', ⟨o', e', _, n', d'⟩, _⟩ := I.tuple h'
 rw [e] at e'; cases e'
 rw [d] at d'
 injection d' with d1 _
 have : its = its' := by simpa using congrArg Array.toList d1
 subst this
 exact r.inj r'
end
abbrev Cx.wish (X : Cx) (E : Value → Shared → Prop) : Cx := { X with xe := E }
abbrev Cx.nox (X : Cx) : Cx := X.wish fun _ _ => False
theorem Cx.Ok.wish {X : Cx} (ok : X.Ok) (E : Value → Shared → Prop) : (X.wish E).Ok :=
 ⟨ok.mod, ok.kind, ok.glob, ok.blt, ok.above, ok.inj, ok.has, ok.cab, ok.hd, ok.frames, ok.stk, ok.exf, ok.bs, ok.bsz, ok.noex, ok.exfs, ok.funs, ok.frf⟩
theorem Cx.Ok.unwish {X : Cx} {E : Value → Shared → Prop} (ok : (X.wish E).Ok) : X.Ok :=
 ⟨ok.mod, ok.kind, ok.glob, ok.blt, ok.above, ok.inj, ok.has, ok.cab, ok.hd, ok.frames, ok.stk, ok.exf, ok.bs, ok.bsz, ok.noex, ok.exfs, ok.funs, ok.frf⟩
section
variable {X : Cx} {pins : List (Addr × Obj)} {σ : St} {H : Hp} {s : Shared} {E : Value → Shared → Prop}
theorem Inv.wish (I : Inv X pins σ H s) (E : Value → Shared → Prop) : Inv (X.wish E) pins σ H s := ⟨I.ok.wish E, I.os, I.bare, I.base, I.loc, I.cell, I.free, I.freeC, I.pin, I.hok, I.len⟩
theorem Inv.unwish (I : Inv (X.wish E) pins σ H s) : Inv X pins σ H s := ⟨I.ok.unwish, I.os, I.bare, I.base, I.loc, I.cell, I.free, I.freeC, I.pin, I.hok, I.len⟩
theorem SP.unwish {D : Ends} {f : Flow} {s' : Shared} (h : SP (X.wish E) pins D f s') : SP X pins D f s' := by
 cases f with
 | next => obtain ⟨σ', H', I, q⟩ := h; exact ⟨σ', H', I.unwish, q⟩
 | brk => obtain ⟨σ', H', I, q⟩ := h; exact ⟨σ', H', I.unwish, q⟩
 | cont => obtain ⟨σ', H', I, q⟩ := h; exact ⟨σ', H', I.unwish, q⟩
 | ret u => obtain ⟨v, σ', H', I, r, q⟩ := h; exact ⟨v, σ', H', I.unwish, r, q⟩
theorem PSs.nox {st : List Stmt} {t : TS} (h : PSs X.nox st t) : PSs X st t := fun pins s σ H D I hw =>
 wpAny_mono (h pins s σ H D (I.wish _) hw) (fun _ _ q => q.unwish) fun _ _ z => False.elim z
end
section
variable {X : Cx} {st : Stmt} {rest : List Stmt} {t u : TS} {e : Expr} {te : TE} {pos : Pos}
def tNext : TS := fun D σ H => D.nx σ H
def tSeq (t u : TS) : TS := fun D σ H => t { D with nx := u D } σ H
theorem pss_nil : PSs X [] tNext := fun _ _ σ H _ I h => wpAny_execs_nil ⟨σ, H, I, h⟩
theorem pss_cons (h1 : PS X st t) (h2 : PSs X rest u) : PSs X (st :: rest) (tSeq t u) := by
 intro pins s σ H D I h
 refine wpAny_execs_cons (thn (h1 pins s σ H { D with nx := u D } I h) fun f s1 q => ?_)
 cases f with
 | next =>
   obtain ⟨σ', H', I', q⟩ := q
   exact h2 pins s1 σ' H' D I' q
 | ret v => exact q
 | brk => exact q
 | cont => exact q
theorem pss_one (h1 : PS X st t) : PSs X [st] t := by
 intro pins s σ H D I h
 refine wpAny_execs_cons (thn (h1 pins s σ H D I h) fun f s1 q => ?_)
 cases f with
 | next => exact wpAny_execs_nil q
 | ret v => exact q
 | brk => exact q
 | cont => exact q
def tRet (te : TE) : TS := fun D σ H => te σ H D.rt
theorem ps_ret (he : PE X e te) : PS X (.Return (some e) pos) (tRet te) := by
 intro pins s σ H D I h
 exact wpAny_Return_some (thn (he pins s σ H _ I h) fun v s1 ⟨x, H1, I1, r1, q1⟩ => ⟨x, σ, H1, I1, r1, q1⟩)
def tIfS (c : TT) (t u : TS) : TS := fun D σ H => c σ H fun b H1 => if b = true then t D σ H1 else u D σ H1
theorem ps_if {c : Expr} {a b : List Stmt} {tc : TT} (hc : PT X c tc) (ha : PSs X a t) (hb : PSs X b u) : PS X (.If c a b pos) (tIfS tc t u) := by
 intro pins s σ H D I h
 refine wpAny_If (thn (hc pins s σ H _ I h) fun d s1 ⟨H1, I1, q1⟩ => ?_)
 cases d with
 | true => exact ha pins s1 σ H1 D I1 q1
 | false => exact hb pins s1 σ H1 D I1 q1
end
abbrev TG := V → St → Hp → (St → Hp → Prop) → Prop
def PG (X : Cx) (target : Expr) (t : TG) : Prop :=
 ∀ (pins : List (Addr × Obj)) (s : Shared) (σ : St) (H : Hp) (v : V) (u : Value) (Q : St → Hp → Prop), Inv X pins σ H s → RelV v u → t v σ H Q →
   wpAny (model X.prog X.w) X.A (assign target X.env u) (fun _ s' => ∃ σ' H', Inv X pins σ' H' s' ∧ Q σ' H') X.xe s
section
variable {X : Cx} {pos : Pos}
def gName (i : Nat) : TG := fun v σ H Q => Q (σ.set i (some v)) H
theorem pg_name {i : Nat} {x : Str} (hN : X.N.Nodup) (hi : X.N[i]? = some x) (hx : Loc X.env.scope x) (hf : X.fn x = true ∨ X.env.scope.names.lookup x = some .local := by first | exact .inl rfl | exact .inr rfl | assumption) : PG X (.Name x pos) (gName i) := by
 intro pins s σ H v u Q I r h
 exact wpAny_assign_Name (store_ok I hN hi hx r (fun s' I' => ⟨_, H, I', h⟩) hf)
def tAsg (te : TE) (g : TG) : TS := fun D σ H => te σ H fun x H1 => g x σ H1 D.nx
theorem ps_set {i : Nat} {x : Str} {e : Expr} {te : TE} {pos' : Pos} (hN : X.N.Nodup) (hi : X.N[i]? = some x) (hx : Loc X.env.scope x) (he : PE X e te) (hs : swapsWith e (some (.Name x pos')) pos.line X.env = pure false := by rfl) (hf : X.fn x = true ∨ X.env.scope.names.lookup x = some .local := by first | exact .inl rfl | exact .inr rfl | assumption) :
   PS X (.Assign [.Name x pos'] e pos) (tAsg te (gName i)) := by
 intro pins s σ H D I h
 refine wpAny_Assign_Name (thn (he pins s σ H _ I h) fun v s1 ⟨y, H1, I1, r1, q1⟩ => ?_) hs
 exact store_ok I1 hN hi hx r1 (fun s2 I2 => ⟨_, H1, I2, q1⟩) hf
end
section
variable {X : Cx} {pos : Pos}
def tWhile (c : TT) (tb : TS) : TS := fun D σ H => ∃ W : Nat → St → Hp → Prop, (∃ m, W m σ H) ∧ ∀ m σ H, W m σ H →
 c σ H fun b H1 => if b = true then ∃ N : St → Hp → Prop, (∀ σ' H', N σ' H' → ∃ m', m' < m ∧ W m' σ' H') ∧ tb { D with nx := N, ct := N, bk := D.nx } σ H1 else D.nx σ H1
theorem ps_while {c : Expr} {body : List Stmt} {tc : TT} {tb : TS} (hp : PassesOwn (model X.prog X.w) X.A X.env X.xe) (hc : PT X c tc) (hb : PSs X body tb) : PS X (.While c body [] pos) (tWhile tc tb) := by
 intro pins s σ H D I h
 obtain ⟨W, ⟨m0, w0⟩, turn⟩ := h
 refine wpAny_While (codeAny_whileLoop (fun n s' => ∃ σ' H', Inv X pins σ' H' s' ∧ W n σ' H') ?_ m0 ⟨σ, H, I, w0⟩)
 rintro n s1 ⟨σ1, H1, I1, w1⟩
 refine wpAny_passesOwn hp (thn (hc pins s1 σ1 H1 _ I1 (turn n σ1 H1 w1)) fun b s2 ⟨H2, I2, q2⟩ => ?_)
 cases b with
 | true =>
   obtain ⟨N, hN, q2⟩ := q2
   rw [if_pos rfl]
   refine wpAny_passesOwn hp (thn (hb pins s2 σ1 H2 _ I2 q2) fun f s3 q3 => ?_)
   cases f with
   | next =>
     obtain ⟨σ3, H3, I3, n3⟩ := q3
     obtain ⟨m', hm, w3⟩ := hN σ3 H3 n3
     exact ⟨m', hm, σ3, H3, I3, w3⟩
   | cont =>
     obtain ⟨σ3, H3, I3, n3⟩ := q3
     obtain ⟨m', hm, w3⟩ := hN σ3 H3 n3
     exact ⟨m', hm, σ3, H3, I3, w3⟩
   | brk => exact q3
   | ret v => exact q3
 | false =>
   rw [if_neg Bool.false_ne_true]
   exact wpAny_execs_nil ⟨σ1, H2, I2, q2⟩
end
structure It where
 go : Nat → Hp → Prop
 yld : Nat → Hp → V → Hp → Prop
 stop : Nat → Hp → Prop
def FpOk (X : Cx) (pins : List (Addr × Obj)) (H : Hp) (b : Addr) : Prop :=
 H b = none ∧ b ≠ X.env.locals ∧ b ∉ X.fs ∧ (b ∈ X.ex ∨ X.s₀.heap.objs.size ≤ b) ∧ (∀ x c, X.env.cells.lookup x = some c → c ≠ b) ∧ ∀ p ∈ X.pn ++ pins, p.1 ≠ b
theorem Inv.fpOk {X : Cx} {pins : List (Addr × Obj)} {σ : St} {H H' : Hp} {s : Shared} {b : Addr} (I : Inv X pins σ H s) (hb : s.heap.objs.size ≤ b) (hn : H' b = none) : FpOk X pins H' b := by
 refine ⟨hn, Nat.ne_of_gt (Nat.lt_of_lt_of_le I.lt hb), I.nofs hb, .inr (Nat.le_trans I.sz hb), fun x c e z => ?_, fun p hp z => ?_⟩
 · obtain ⟨v, q⟩ := I.cell x c e
   exact absurd (Nat.lt_of_lt_of_le q.lt (by rw [z]; exact hb)) (Nat.lt_irrefl _)
 · exact absurd (Nat.lt_of_lt_of_le (Heap.lt_size (I.pin p hp).1) (by rw [z]; exact hb)) (Nat.lt_irrefl _)
structure Turn (P : Program) (w : World) (K : PySem.W.Frag) (tg : Expr) (J : It) (fp : List Addr) (it : Addr) (tn : Nat → Heap → Prop) : Prop where
 mem : it ∈ fp
 obj : ∀ i h, tn i h → ∀ b ∈ fp, ∃ o, h.get? b = some o ∧ ∀ v, o.data ≠ .cell v
 keep : ∀ i h h', tn i h → (∀ b ∈ fp, ∀ o, h.get? b = some o → h'.get? b = some o) → tn i h'
 item : ∀ (X : Cx), X.prog = P → X.w = w → X.K = K → X.calm = true → ∀ (i : Nat) (pins : List (Addr × Obj)) (s : Shared) (σ : St) (H : Hp) (E : Value → Shared → Prop), Inv X pins σ H s → (∀ b ∈ fp, FpOk X pins H b) → tn i s.heap → J.go i H →
   wpAny (model P w) X.A (pyNext (.ref it)) (fun r s1 => ∃ u, r = some u ∧
     wpAny (model P w) X.A (letOwnedTupleGo tg (.ref it) u) (fun _ s2 => ∃ x H', Inv X pins σ H' s2 ∧ RelV x u ∧ J.yld i H x H' ∧ tn (i + 1) s2.heap ∧ ∀ b ∈ fp, H' b = none) E s1) E s
 done : ∀ (X : Cx), X.prog = P → X.w = w → X.K = K → X.calm = true → ∀ (i : Nat) (pins : List (Addr × Obj)) (s : Shared) (σ : St) (H : Hp) (E : Value → Shared → Prop), Inv X pins σ H s → (∀ b ∈ fp, FpOk X pins H b) → tn i s.heap → J.stop i H →
   wpAny (model P w) X.A (pyNext (.ref it)) (fun r s1 => r = none ∧ Inv X pins σ H s1) E s
 self : ∀ (A : Around) (i : Nat) (s : Shared) (Q : Value → Shared → Prop) (E : Value → Shared → Prop), tn i s.heap → Q (.ref it) s → wpAny (model P w) A (pyIter (.ref it)) Q E s
abbrev TI := St → Hp → (It → Hp → Prop) → Prop
def PIE (X : Cx) (pins : List (Addr × Obj)) (σ : St) (tg : Expr) (R : It → Hp → Prop) (itv : Value) (s2 : Shared) : Prop :=
 ∃ (it : Addr) (fp : List Addr) (tn : Nat → Heap → Prop) (J : It) (H' : Hp), itv = .ref it ∧ Inv X pins σ H' s2 ∧ Turn X.prog X.w X.K tg J fp it tn ∧ tn 0 s2.heap ∧ (∀ b ∈ fp, FpOk X pins H' b) ∧ R J H'
def PI (X : Cx) (tg iter : Expr) (wi : TI) : Prop :=
 ∀ (pins : List (Addr × Obj)) (s : Shared) (σ : St) (H : Hp) (R : It → Hp → Prop), Inv X pins σ H s → wi σ H R →
   wpAny (model X.prog X.w) X.A (eval iter X.env) (fun v s1 => wpAny (model X.prog X.w) X.A (pyIter v) (PIE X pins σ tg R) X.xe s1) X.xe s
theorem go_of {M : Model} {A : Around} {E : Value → Shared → Prop} {s : Shared} {tg : Expr} {it : Addr} {u : Value} {o : Obj} {n : String} {vs : Array Value} {Q : Unit → Shared → Prop} (ho : s.heap.get? it = some o) (hc : o.cls = .type n) (hd : o.data = .fields vs)
   (hn : ["enumerate", "zip", "dict_itemiterator", "dict_reverseitemiterator", "odict_iterator", "itertools.zip_longest", "itertools.pairwise"].contains n = false) (hQ : Q () s) : wpAny M A (letOwnedTupleGo tg (.ref it) u) Q E s := by
 unfold letOwnedTupleGo
 cases tg <;> first
   | exact wpAny_pure hQ
   | (cases u <;> first
       | exact wpAny_pure hQ
       | (refine wpAny_bind (wpAny_load ho ?_)
          rw [hc, hd]
          show wpAny M A (if (["enumerate", "zip", "dict_itemiterator", "dict_reverseitemiterator", "odict_iterator", "itertools.zip_longest", "itertools.pairwise"].contains n && vs[0]? == some (rawInt _)) = true then _ else _) Q E s
          rw [if_neg (by intro h; rw [hn, Bool.false_and] at h; cases h)]
          exact wpAny_pure hQ))
def Itl (K : PySem.W.Frag) (a : Addr) : It :=
 ⟨fun i H => ∃ xs x, SqL K H a xs ∧ xs[i]? = some x, fun i H x H' => H' = H ∧ ∀ xs, SqL K H a xs → xs[i]? = some x, fun i H => ∃ xs, SqL K H a xs ∧ xs.length ≤ i⟩
def Itt (K : PySem.W.Frag) (a : Addr) : It :=
 ⟨fun i H => ∃ xs x, SqT K H a xs ∧ xs[i]? = some x, fun i H x H' => H' = H ∧ ∀ xs, SqT K H a xs → xs[i]? = some x, fun i H => ∃ xs, SqT K H a xs ∧ xs.length ≤ i⟩
def Itr (lo : Int) (n : Nat) : It := ⟨fun i _ => i < n, fun i H x H' => H' = H ∧ x = .int (lo + i), fun i _ => n ≤ i⟩
theorem turn_list {P : Program} {w : World} {K : PySem.W.Frag} {tg : Expr} (a it : Addr) : Turn P w K tg (Itl K a) [it] it (fun i h => h.IsListIter it a i) where
 mem := by simp
 obj := fun i h st b hb => by
   have e : b = it := by simpa using hb
   subst e
   obtain ⟨o, e, c, d⟩ := st
   exact ⟨o, e, fun v z => by rw [d] at z; cases z⟩
 keep := fun i h h' st k => st.at fun o e => k it (by simp) o e
 item := by
   intro X hP hw hK hc i pins s σ H E I hf st hg
   subst hP hw hK
   obtain ⟨xs, x, hq, hx⟩ := hg
   obtain ⟨its, rv, p, hz⟩ := I.list hq
   obtain ⟨u, hu, ru⟩ := rv.get hx
   obtain ⟨f0, f1, f2, f3, f4, f5⟩ := hf it (by simp)
   refine wpAny_pyNext_list_item st p.isList (x := u) (by simpa using hu) fun h' st' sb => ?_
   have I1 : Inv X pins σ H { s with heap := h' } := I.turned (t' := s.toks) (fun b o hb e => (sb.2 b hb).trans e) f0 f1 f3 f4 f5
   obtain ⟨o, e, c, d⟩ := id st'
   exact ⟨u, rfl, go_of (s := { s with heap := h' }) e c d (by decide) ⟨x, H, I1, ru, ⟨rfl, fun ys hy => by rw [I.list_inj hy hq]; exact hx⟩, st', fun b hb => (hf b hb).1⟩⟩
 done := by
   intro X hP hw hK hc i pins s σ H E I hf st hg
   subst hP hw hK
   obtain ⟨xs, hq, hx⟩ := hg
   obtain ⟨its, rv, p, hz⟩ := I.list hq
   obtain ⟨f0, f1, f2, f3, f4, f5⟩ := hf it (by simp)
   have hl := rv.length
   exact wpAny_pyNext_list_end (I.ok.hd hc) st p.isList (by simp; omega) fun h' eb => ⟨rfl, I.turned (t' := s.toks) (fun b o hb e => eb b o hb e) f0 f1 f3 f4 f5⟩
 self := fun _ _ _ _ _ st h => wpAny_pyIter_listiter st h
theorem turn_tuple {P : Program} {w : World} {K : PySem.W.Frag} {tg : Expr} (a it : Addr) : Turn P w K tg (Itt K a) [it] it (fun i h => h.IsTupleIter it a i) where
 mem := by simp
 obj := fun i h st b hb => by
   have e : b = it := by simpa using hb
   subst e
   obtain ⟨o, e, c, d⟩ := st
   exact ⟨o, e, fun v z => by rw [d] at z; cases z⟩
 keep := fun i h h' st k => st.at fun o e => k it (by simp) o e
 item := by
   intro X hP hw hK hc i pins s σ H E I hf st hg
   subst hP hw hK
   obtain ⟨xs, x, hq, hx⟩ := hg
   obtain ⟨its, rv, p, hz⟩ := I.tuple hq
   obtain ⟨u, hu, ru⟩ := rv.get hx
   obtain ⟨f0, f1, f2, f3, f4, f5⟩ := hf it (by simp)
   refine wpAny_pyNext_tuple_item st (show s.heap.IsTuple a its.toArray from p) (x := u) (by simpa using hu) fun h' st' sb => ?_
   have I1 : Inv X pins σ H { s with heap := h' } := I.turned (t' := s.toks) (fun b o hb e => (sb.2 b hb).trans e) f0 f1 f3 f4 f5
   obtain ⟨o, e, c, d⟩ := id st'
   exact ⟨u, rfl, go_of (s := { s with heap := h' }) e c d (by decide) ⟨x, H, I1, ru, ⟨rfl, fun ys hy => by rw [I.tuple_inj hy hq]; exact hx⟩, st', fun b hb => (hf b hb).1⟩⟩
 done := by
   intro X hP hw hK hc i pins s σ H E I hf st hg
   subst hP hw hK
   obtain ⟨xs, hq, hx⟩ := hg
   obtain ⟨its, rv, p, hz⟩ := I.tuple hq
   obtain ⟨f0, f1, f2, f3, f4, f5⟩ := hf it (by simp)
   have hl := rv.length
   exact wpAny_pyNext_tuple_end (I.ok.hd hc) st (show s.heap.IsTuple a its.toArray from p) (by simp; omega) fun h' eb => ⟨rfl, I.turned (t' := s.toks) (fun b o hb e => eb b o hb e) f0 f1 f3 f4 f5⟩
 self := fun _ _ _ _ _ st h => wpAny_pyIter_tupleiter st h
theorem turn_range {P : Program} {w : World} {K : PySem.W.Frag} {tg : Expr} (it : Addr) (lo : Int) (n : Nat) : Turn P w K tg (Itr lo n) [it] it (fun i h => IsRangeIter h it (lo + (i : Nat) * 1) ((n : Int) - (i : Nat)) 1) where
 mem := by simp
 obj := fun i h st b hb => by
   have e : b = it := by simpa using hb
   subst e
   exact ⟨_, st, fun v z => by
     have z' : Data.fields _ = Data.cell v := z
     cases z'⟩
 keep := fun i h h' st k => k it (by simp) _ st
 item := by
   intro X hP hw hK hc i pins s σ H E I hf st hg
   subst hP hw hK
   obtain ⟨f0, f1, f2, f3, f4, f5⟩ := hf it (by simp)
   have W := Walks.range (prog := X.prog) (w := X.w) (I.ok.hd hc) it lo 1 n
   refine W.item i s _ _ hg st fun v h' tk hv st' kk => ?_
   obtain ⟨t, rfl⟩ := hv
   have I1 : Inv X pins σ H { s with heap := h', toks := tk } := I.turned (fun b o hb e => kk b o (by simpa using hb) e) f0 f1 f3 f4 f5
   refine ⟨_, rfl, go_of (s := { s with heap := h', toks := tk }) (n := "range_iterator") st' rfl rfl (by decide) ⟨.int (lo + i), H, I1, ⟨t, ?_⟩, ⟨rfl, rfl⟩, st', fun b hb => (hf b hb).1⟩⟩
   rw [Int.mul_one]
 done := by
   intro X hP hw hK hc i pins s σ H E I hf st hg
   subst hP hw hK
   obtain ⟨f0, f1, f2, f3, f4, f5⟩ := hf it (by simp)
   exact wpAny_pyNext_range_end (I.ok.hd hc) st (by have : n ≤ i := hg; omega) fun h' eb => ⟨rfl, I.turned (t' := s.toks) (fun b o hb e => eb b o hb e) f0 f1 f3 f4 f5⟩
 self := fun _ _ _ _ _ st h => wpAny_pyIter_rangeiter st h
end L2
namespace L2
open PySem PySem.Spec PyProof.Rows
section
variable {X : Cx} {tg : Expr}
def iList (K : PySem.W.Frag) (tl : TE) : TI := fun σ H R => tl σ H fun x H1 => ∃ a, x = .ref a ∧ (∃ xs, SqL K H1 a xs) ∧ R (Itl K a) H1
def iTup (K : PySem.W.Frag) (tl : TE) : TI := fun σ H R => tl σ H fun x H1 => ∃ a, x = .ref a ∧ (∃ xs, SqT K H1 a xs) ∧ R (Itt K a) H1
theorem pi_list {l : Expr} {tl : TE} (hl : PE X l tl) : PI X tg l (iList X.K tl) := by
 intro pins s σ H R I h
 refine thn (hl pins s σ H _ I h) fun v s1 ⟨x, H1, I1, r1, q1⟩ => ?_
 obtain ⟨a, e, ⟨xs, hq⟩, q⟩ := q1
 subst e
 cases r1
 obtain ⟨its, rv, p, hz⟩ := I1.list hq
 refine wpAny_pyIter_list p.isList ?_
 refine ⟨s1.heap.objs.size, [s1.heap.objs.size], _, _, H1, rfl, I1.kept (t' := s1.toks) fun b o e => Heap.get?_push_of_some _ e, turn_list a _, ⟨_, Heap.get?_push_size _ rfl, rfl, rfl⟩, fun b hb => ?_, q⟩
 have e : b = s1.heap.objs.size := by simpa using hb
 subst e
 exact I1.fpOk (Nat.le_refl _) (I1.hok.fresh (Nat.le_refl _))
theorem pi_tup {l : Expr} {tl : TE} (hl : PE X l tl) : PI X tg l (iTup X.K tl) := by
 intro pins s σ H R I h
 refine thn (hl pins s σ H _ I h) fun v s1 ⟨x, H1, I1, r1, q1⟩ => ?_
 obtain ⟨a, e, ⟨xs, hq⟩, q⟩ := q1
 subst e
 cases r1
 obtain ⟨its, rv, p, hz⟩ := I1.tuple hq
 refine wpAny_pyIter_tuple (show s1.heap.IsTuple a its.toArray from p) ?_
 refine ⟨s1.heap.objs.size, [s1.heap.objs.size], _, _, H1, rfl, I1.kept (t' := s1.toks) fun b o e => Heap.get?_push_of_some _ e, turn_tuple a _, ⟨_, Heap.get?_push_size _ rfl, rfl, rfl⟩, fun b hb => ?_, q⟩
 have e : b = s1.heap.objs.size := by simpa using hb
 subst e
 exact I1.fpOk (Nat.le_refl _) (I1.hok.fresh (Nat.le_refl _))
theorem range_it {pins : List (Addr × Obj)} {σ : St} {H : Hp} {s : Shared} {R : It → Hp → Prop} {E : Value → Shared → Prop} {lo hi : Int} {t u v : Tok} {tk : Nat} (I : Inv X pins σ H s) (h1 : -(2 ^ 62) ≤ lo) (h2 : lo < 2 ^ 62) (h3 : -(2 ^ 62) ≤ hi) (h4 : hi < 2 ^ 62)
   (q : R (Itr lo (hi - lo).toNat) H) : wpAny (model X.prog X.w) X.A (pyIter (.ref s.heap.objs.size)) (PIE X pins σ tg R) E { s with heap := s.heap.push { cls := .type "range", data := .fields #[.int lo t, .int hi u, .int 1 v] }, toks := tk } := by
 refine wpAny_pyIter_range (IsRange.new ..) (small_one h1 h2 h3 h4) ?_
 have I1 : Inv X pins σ H { s with heap := s.heap.push { cls := .type "range", data := .fields #[.int lo t, .int hi u, .int 1 v] }, toks := tk } := I.kept fun b o e => Heap.get?_push_of_some _ e
 refine ⟨(s.heap.push { cls := .type "range", data := .fields #[.int lo t, .int hi u, .int 1 v] }).objs.size, [(s.heap.push { cls := .type "range", data := .fields #[.int lo t, .int hi u, .int 1 v] }).objs.size], _, _, H, rfl,
   I1.kept (t' := tk) fun b o e => Heap.get?_push_of_some _ e, turn_range _ lo (hi - lo).toNat, ?_, fun b hb => ?_, q⟩
 · have e1 : lo + ((0 : Nat) : Int) * 1 = lo := by simp
   have e2 : (((hi - lo).toNat : Nat) : Int) - ((0 : Nat) : Int) = Builtin.Range.rangeSize lo hi 1 := by rw [rangeSize_one]; split <;> omega
   show IsRangeIter _ _ (lo + ((0 : Nat) : Int) * 1) ((((hi - lo).toNat : Nat) : Int) - ((0 : Nat) : Int)) 1
   rw [e1, e2]
   exact Heap.get?_push_size _ rfl
 · have e : b = (s.heap.push { cls := .type "range", data := .fields #[.int lo t, .int hi u, .int 1 v] }).objs.size := by simpa using hb
   subst e
   exact I1.fpOk (Nat.le_refl _) (I1.hok.fresh (Nat.le_refl _))
def iRng1 (ta : TA) : TI := fun σ H R => ta σ H fun vs H1 => ∃ j : Int, vs = [.int j] ∧ -(2 ^ 62) ≤ j ∧ j < 2 ^ 62 ∧ R (Itr 0 j.toNat) H1
theorem pi_range1 {a : Expr} {ta : TA} {p pos : Pos} (hg : Gl X "range") (hm : X.mg "range" = none) (ha : PA X [a] ta) (hs : starEach [a] X.env = [(false, eval a X.env)] := by rfl) : PI X tg (.Call (.Name "range" p) [a] [] pos) (iRng1 ta) := by
 intro pins s σ H R I h
 refine Call_ (ld_blt I hg hm boot_range (PyProof.Rows.callWith_type1 (thn (ha pos pins s σ H _ I h) fun us s1 ⟨vs, H1, I1, r1, q1⟩ => ?_) hs rfl))
 obtain ⟨j, e, q1, q2, q⟩ := q1
 subst e
 cases r1 with
 | cons r rr =>
   cases rr
   obtain ⟨t, rfl⟩ := r
   exact call_range_1 (range_it I1 (by omega) (by omega) q1 q2 (by simpa using q))
def tFor (wi : TI) (g : TG) (tb : TS) : TS := fun D σ H => wi σ H fun J H1 => ∃ W : Nat → Nat → St → Hp → Prop, (∃ m, W 0 m σ H1) ∧ ∀ i m σ H, W i m σ H →
 (J.stop i H ∧ D.nx σ H) ∨ (J.go i H ∧ ∃ N : St → Hp → Prop, (∀ σ' H', N σ' H' → ∃ m', m' < m ∧ W (i + 1) m' σ' H') ∧ ∀ x H', J.yld i H x H' → g x σ H' fun σ2 H2 => tb { D with nx := N, ct := N, bk := D.nx } σ2 H2)
def pinsAt (fp : List Addr) (h : Heap) : List (Addr × Obj) := fp.filterMap fun b => (h.get? b).map fun o => (b, o)
theorem mem_pinsAt {fp : List Addr} {h : Heap} {b : Addr} {o : Obj} (hb : b ∈ fp) (e : h.get? b = some o) : (b, o) ∈ pinsAt fp h := List.mem_filterMap.mpr ⟨b, hb, by rw [e]; rfl⟩
theorem of_pinsAt {fp : List Addr} {h : Heap} {p : Addr × Obj} (hp : p ∈ pinsAt fp h) : p.1 ∈ fp ∧ h.get? p.1 = some p.2 := by
 obtain ⟨b, hb, e⟩ := List.mem_filterMap.mp hp
 cases q : h.get? b with
 | none => rw [q] at e; cases e
 | some o =>
   rw [q] at e
   have e' : (b, o) = p := Option.some.inj e
   subst e'
   exact ⟨hb, q⟩
theorem Inv.pinned {pins : List (Addr × Obj)} {σ : St} {H : Hp} {s : Shared} {fp : List Addr} (I : Inv X pins σ H s) (hf : ∀ b ∈ fp, FpOk X pins H b) (ho : ∀ b ∈ fp, ∃ o, s.heap.get? b = some o ∧ ∀ v, o.data ≠ .cell v) : Inv X (pins ++ pinsAt fp s.heap) σ H s :=
 I.pins_of fun p hp => (List.mem_append.mp hp).elim (fun z => I.pin p (List.mem_append_right _ z)) fun z => by
   obtain ⟨hb, e⟩ := of_pinsAt z
   obtain ⟨f0, f1, f2, _⟩ := hf p.1 hb
   obtain ⟨o, e', d⟩ := ho p.1 hb
   rw [e] at e'; cases e'
   exact ⟨e, f0, f1, f2, d⟩
theorem Inv.unpinned {pins pl : List (Addr × Obj)} {σ : St} {H : Hp} {s : Shared} (I : Inv X (pins ++ pl) σ H s) : Inv X pins σ H s := I.pins_of fun p hp => I.pin p (List.mem_append_right _ (List.mem_append_left _ hp))
theorem ps_for {iter : Expr} {body : List Stmt} {wi : TI} {g : TG} {tb : TS} {pos : Pos} (hp : PassesOwn (model X.prog X.w) X.A X.env X.xe) (hc : X.calm = true) (hi : PI X tg iter wi) (hg : PG X tg g) (hb : PSs X body tb)
   (hs : ∀ x, foldedSetIterable iter X.env x = pure x := by intro _; rfl) : PS X (.For tg iter body [] pos) (tFor wi g tb) := by
 intro pins s σ H D I h
 refine wpAny_For (thn (hi pins s σ H _ I h) fun v s1 h1 => thn h1 fun itv s2 h2 => ?_) hs
 obtain ⟨it, fp, tn, J, H2, e, I2, T, st2, f2, W, ⟨m0, w0⟩, turn⟩ := h2
 subst e
 -- what stays true of the iterator's objects through the loop
 have stat : ∀ {H' : Hp}, (∀ b ∈ fp, H' b = none) → ∀ b ∈ fp, FpOk X pins H' b := fun hn b hb => ⟨hn b hb, (f2 b hb).2⟩
 refine codeAny_forLoop_any (fun n s' => ∃ i σ' H', Inv X pins σ' H' s' ∧ tn i s'.heap ∧ (∀ b ∈ fp, H' b = none) ∧ W i n σ' H') ?_ m0 ⟨0, σ, H2, I2, st2, fun b hb => (f2 b hb).1, w0⟩
 rintro n s3 ⟨i, σ3, H3, I3, st3, fr3, w3⟩
 rcases turn i n σ3 H3 w3 with ⟨stop, qn⟩ | ⟨go, N, hN, step⟩
 · refine wpAny_passesOwn hp (thn (T.done X rfl rfl rfl hc i pins s3 σ3 H3 X.xe I3 (stat fr3) st3 stop) fun r s4 ⟨hr, I4⟩ => ?_)
   subst hr
   exact wpAny_execs_nil ⟨σ3, H3, I4, qn⟩
 · refine wpAny_passesOwn hp (thn (T.item X rfl rfl rfl hc i pins s3 σ3 H3 X.xe I3 (stat fr3) st3 go) fun r s4 ⟨u, hr, h4⟩ => ?_)
   subst hr
   refine wpAny_passesOwn hp (thn h4 fun _ s5 ⟨x, H5, I5, r5, y5, st5, fr5⟩ => ?_)
   have I5' := I5.pinned (stat fr5) (T.obj _ _ st5)
   refine wpAny_passesOwn hp (thn (hg _ s5 σ3 H5 x u _ I5' r5 (step x H5 y5)) fun _ s6 ⟨σ6, H6, I6, q6⟩ => ?_)
   refine wpAny_passesOwn hp (thn (hb _ s6 σ6 H6 _ I6 q6) fun f s7 q7 => ?_)
   have again : ∀ {σ7 : St} {H7 : Hp}, Inv X (pins ++ pinsAt fp s5.heap) σ7 H7 s7 → N σ7 H7 → ∃ m, m < n ∧ ∃ i σ' H', Inv X pins σ' H' s7 ∧ tn i s7.heap ∧ (∀ b ∈ fp, H' b = none) ∧ W i m σ' H' := fun {σ7 H7} I7 n7 => by
     obtain ⟨m', hm, w7⟩ := hN σ7 H7 n7
     refine ⟨m', hm, i + 1, σ7, H7, I7.unpinned, T.keep _ _ _ st5 fun b hb o e => (I7.pin (b, o) (List.mem_append_right _ (List.mem_append_right _ (mem_pinsAt hb e)))).1, fun b hb => ?_, w7⟩
     obtain ⟨o, e, d⟩ := T.obj _ _ st5 b hb
     exact (I7.pin (b, o) (List.mem_append_right _ (List.mem_append_right _ (mem_pinsAt hb e)))).2.1
   cases f with
   | next => obtain ⟨σ7, H7, I7, n7⟩ := q7; exact again I7 n7
   | cont => obtain ⟨σ7, H7, I7, n7⟩ := q7; exact again I7 n7
   | brk => obtain ⟨σ7, H7, I7, q7⟩ := q7; exact ⟨σ7, H7, I7.unpinned, q7⟩
   | ret v => obtain ⟨x7, σ7, H7, I7, r7, q7⟩ := q7; exact ⟨x7, σ7, H7, I7.unpinned, r7, q7⟩
end
theorem for_list {K : PySem.W.Frag} {a : Addr} {xs : List V} {g : TG} {tb : TS} {D : Ends} {σ : St} {H : Hp} (Pv : Nat → St → Hp → Prop) (h0 : Pv 0 σ H) (hl : ∀ i σ H, i ≤ xs.length → Pv i σ H → SqL K H a xs)
   (hs : ∀ i x σ H, xs[i]? = some x → Pv i σ H → g x σ H fun σ2 H2 => tb { D with nx := Pv (i + 1), ct := Pv (i + 1), bk := D.nx } σ2 H2) (hd : ∀ σ H, Pv xs.length σ H → D.nx σ H) :
   ∃ W : Nat → Nat → St → Hp → Prop, (∃ m, W 0 m σ H) ∧ ∀ i m σ H, W i m σ H →
     ((Itl K a).stop i H ∧ D.nx σ H) ∨ ((Itl K a).go i H ∧ ∃ N : St → Hp → Prop, (∀ σ' H', N σ' H' → ∃ m', m' < m ∧ W (i + 1) m' σ' H') ∧ ∀ x H', (Itl K a).yld i H x H' → g x σ H' fun σ2 H2 => tb { D with nx := N, ct := N, bk := D.nx } σ2 H2) := by
 refine ⟨fun i m σ H => m = xs.length - i ∧ i ≤ xs.length ∧ Pv i σ H, ⟨xs.length, by simp, Nat.zero_le _, h0⟩, ?_⟩
 rintro i m σ H ⟨rfl, hi, p⟩
 have q := hl i σ H hi p
 by_cases hlt : i < xs.length
 · refine .inr ⟨⟨xs, xs[i], q, by simp [hlt]⟩, Pv (i + 1), fun σ' H' p' => ⟨xs.length - (i + 1), by omega, rfl, hlt, p'⟩, fun x H' y => ?_⟩
   obtain ⟨e, y⟩ := y
   subst e
   exact hs i x σ _ (y xs q) p
 · have e : i = xs.length := by omega
   subst e
   exact .inl ⟨⟨xs, q, Nat.le_refl _⟩, hd σ H p⟩
end L2
namespace L2
open PySem PySem.Spec PyProof.Rows
abbrev R2 := V → V → Hp → VK → Prop
def OpR (X : Cx) (f : Value → Value → Sem Value) (r : R2) : Prop :=
 ∀ (pins : List (Addr × Obj)) (s : Shared) (σ : St) (H : Hp) (x y : V) (v u : Value) (Q : VK), Inv X pins σ H s → RelV x v → RelV y u → r x y H Q →
   wpAny (model X.prog X.w) X.A (f v u) (EP X pins σ Q) X.xe s
def CallR (X : Cx) (f : Value) (r : List V → Hp → VK → Prop) : Prop :=
 ∀ (pins : List (Addr × Obj)) (s : Shared) (σ : St) (H : Hp) (xs : List V) (us : List Value) (Q : VK), Inv X pins σ H s → Vals xs us → r xs H Q →
   wpAny (model X.prog X.w) X.A (call f us) (EP X pins σ Q) X.xe s
def tOp (r : R2) (ta tb : TE) : TE := fun σ H Q => ta σ H fun x H1 => tb σ H1 fun y H2 => r x y H2 Q
def rI (C : Int → Int → Prop) (g : Int → Int → V) : R2 := fun x y H Q => ∃ i j, x = .int i ∧ y = .int j ∧ C i j ∧ Q (g i j) H
def rI0 (g : Int → Int → V) : R2 := fun x y H Q => ∃ i j, x = .int i ∧ y = .int j ∧ Q (g i j) H
section
variable {X : Cx} {a b c : Expr} {ta tb tc : TE} {pos : Pos}
theorem binT (ha : PE X a ta) (hb : PE X b tb) {pins : List (Addr × Obj)} {s : Shared} {σ : St} {H : Hp} {R : V → V → Hp → Prop} (I : Inv X pins σ H s)
   (h : ta σ H fun x H1 => tb σ H1 fun y H2 => R x y H2) {Q : Value → Shared → Prop} {f : Value → Value → Sem Value}
   (hf : ∀ v u s2 x y H2, Inv X pins σ H2 s2 → RelV x v → RelV y u → R x y H2 → wpAny (model X.prog X.w) X.A (f v u) Q X.xe s2) :
   wpAny (model X.prog X.w) X.A (eval a X.env) (fun v s₁ => wpAny (model X.prog X.w) X.A (eval b X.env) (fun u s₂ => wpAny (model X.prog X.w) X.A (f v u) Q X.xe s₂) X.xe s₁) X.xe s := by
 refine thn (ha pins s σ H _ I h) fun v s1 ⟨x, H1, I1, r1, q1⟩ => ?_
 refine thn (hb pins s1 σ H1 _ I1 q1) fun u s2 ⟨y, H2, I2, r2, q2⟩ => ?_
 exact hf v u s2 x y H2 I2 r1 r2 q2
theorem pe_op {op : Operator} {r : R2} (ho : OpR X (binaryOp op) r) (ha : PE X a ta) (hb : PE X b tb) : PE X (.BinOp a op b pos) (tOp r ta tb) := by
 intro pins s σ H Q I h
 exact wpAny_BinOp (binT ha hb I h fun v u s2 x y H2 I2 rx ry q => ho pins s2 σ H2 x y v u Q I2 rx ry q)
theorem opI {f : Value → Value → Sem Value} {C : Int → Int → Prop} {g : Int → Int → Int}
   (rule : ∀ (i j : Int) (t u : Tok) (s : Shared) (Q : Value → Shared → Prop) (E : Value → Shared → Prop), C i j → Q (.int (g i j) s.toks) { s with toks := s.toks + 1 } → wpAny (model X.prog X.w) X.A (f (.int i t) (.int j u)) Q E s) :
   OpR X f (rI C fun i j => .int (g i j)) := by
 intro pins s σ H x y v u Q I rx ry h
 obtain ⟨i, j, rfl, rfl, hc, q⟩ := h
 obtain ⟨t, rfl⟩ := rx
 obtain ⟨t', rfl⟩ := ry
 exact rule i j t t' s _ _ hc ⟨.int (g i j), H, I.tok _, ⟨_, rfl⟩, q⟩
theorem opI0 {f : Value → Value → Sem Value} {g : Int → Int → Int}
   (rule : ∀ (i j : Int) (t u : Tok) (s : Shared) (Q : Value → Shared → Prop) (E : Value → Shared → Prop), Q (.int (g i j) s.toks) { s with toks := s.toks + 1 } → wpAny (model X.prog X.w) X.A (f (.int i t) (.int j u)) Q E s) :
   OpR X f (rI0 fun i j => .int (g i j)) := by
 intro pins s σ H x y v u Q I rx ry h
 obtain ⟨i, j, rfl, rfl, q⟩ := h
 obtain ⟨t, rfl⟩ := rx
 obtain ⟨t', rfl⟩ := ry
 exact rule i j t t' s _ _ ⟨.int (g i j), H, I.tok _, ⟨_, rfl⟩, q⟩
theorem opB0 {f : Value → Value → Sem Value} {g : Int → Int → Bool}
   (rule : ∀ (i j : Int) (t u : Tok) (s : Shared) (Q : Value → Shared → Prop) (E : Value → Shared → Prop), Q (.bool (g i j)) s → wpAny (model X.prog X.w) X.A (f (.int i t) (.int j u)) Q E s) :
   OpR X f (rI0 fun i j => .bl (g i j)) := by
 intro pins s σ H x y v u Q I rx ry h
 obtain ⟨i, j, rfl, rfl, q⟩ := h
 obtain ⟨t, rfl⟩ := rx
 obtain ⟨t', rfl⟩ := ry
 exact rule i j t t' s _ _ ⟨.bl (g i j), H, I, rfl, q⟩
def CDiv (i j : Int) : Prop := 0 < j ∧ j < 1073741824
def CPow (i j : Int) : Prop := 0 ≤ j ∧ j ≤ 1000000 ∧ i.natAbs < 2 ^ 64
def CMul (i j : Int) : Prop := (-(2 ^ 64) < i ∧ i < 2 ^ 64) ∨ (-(2 ^ 64) < j ∧ j < 2 ^ 64)
theorem CMul.ok {i j : Int} (h : CMul i j) : IntMulOk i j := by
 rcases h with ⟨h1, h2⟩ | ⟨h1, h2⟩
 · exact .of_left (intBits_le_64 h1 h2)
 · exact .of_right (intBits_le_64 h1 h2)
theorem op_add : OpR X (binaryOp .Add) (rI0 fun i j => .int (i + j)) := opI0 fun _ _ _ _ _ _ _ q => add_int q
theorem op_sub : OpR X (binaryOp .Sub) (rI0 fun i j => .int (i - j)) := opI0 fun _ _ _ _ _ _ _ q => sub_int q
theorem op_mul : OpR X (binaryOp .Mult) (rI CMul fun i j => .int (i * j)) := opI fun _ _ _ _ _ _ _ hc q => mul_int q hc.ok
theorem op_fdiv : OpR X (binaryOp .FloorDiv) (rI CDiv fun i j => .int (i / j)) := opI fun i j _ _ _ _ _ hc q => by
 have h1 : (0 : Int) < j := hc.1
 have h2 : j < 1073741824 := hc.2
 exact floordiv_int (by omega) (by rw [Int.fdiv_eq_ediv_of_nonneg i (by omega)]; exact q) (.inl (PyProof.noPylong_small (by omega)))
theorem op_mod : OpR X (binaryOp .Mod) (rI (fun _ j => 0 < j) fun i j => .int (i % j)) := opI fun i j _ _ _ _ _ hc q => by
 have h1 : (0 : Int) < j := hc
 exact mod_int' (by omega) (by rw [Int.fmod_eq_emod_of_nonneg i (by omega)]; exact q)
theorem op_pow : OpR X (binaryOp .Pow) (rI CPow fun i j => .int (i ^ j.toNat)) := opI fun _ _ _ _ _ _ _ hc q => pow_int_small hc.1 hc.2.1 hc.2.2 q
end
def scal : V → V → Bool
 | .non, .non => true | .non, .int _ => true | .int _, .non => true | .non, .bl _ => true | .bl _, .non => true | .non, .str _ => true | .str _, .non => true
 | .int _, .int _ => true | .bl _, .bl _ => true | .str _, .str _ => true | .byt _, .byt _ => true
 | .int _, .str _ => true | .str _, .int _ => true | .bl _, .str _ => true | .str _, .bl _ => true
 | _, _ => false
def rEq : R2 := fun x y H Q => scal x y = true ∧ Q (.bl (decide (x = y))) H
theorem dec_int {i j : Int} : decide (V.int i = V.int j) = (i == j) := by
 rw [Bool.eq_iff_iff]
 simp
theorem dec_bl {i j : Bool} : decide (V.bl i = V.bl j) = (i == j) := by
 rw [Bool.eq_iff_iff]
 simp
theorem dec_str {i j : Str} : decide (V.str i = V.str j) = (i == j) := by
 rw [Bool.eq_iff_iff]
 simp
theorem dec_byt {i j : Array UInt8} : decide (V.byt i = V.byt j) = (i.toList == j.toList) := by
 rw [Bool.eq_iff_iff]
 cases i
 cases j
 simp
section
variable {X : Cx} {a b c : Expr} {ta tb tc : TE} {pos : Pos}
theorem fin_bl {pins : List (Addr × Obj)} {σ : St} {H : Hp} {s : Shared} {Q : VK} {k k' : Bool} (I : Inv X pins σ H s) (q : Q (.bl k) H) (e : k = k') : EP X pins σ Q (.bool k') s := by
 subst e
 exact ⟨.bl k, H, I, rfl, q⟩
theorem op_eq : OpR X (compareOp .Eq) rEq := by
 intro pins s σ H x y v u Q I rx ry h
 obtain ⟨hs, q⟩ := h
 cases x with
 | non =>
   cases rx
   cases y with
   | non => cases ry; exact PySem.EqNone.eq_none_none (fin_bl I q (by simp))
   | bl j => cases ry; exact PySem.EqNone.eq_none_bool (fin_bl I q (by simp))
   | int j => obtain ⟨t', rfl⟩ := ry; exact PySem.EqNone.eq_none_int (fin_bl I q (by simp))
   | str j => obtain ⟨t', rfl⟩ := ry; exact PySem.EqNone.eq_none_str (fin_bl I q (by simp))
   | _ => exact absurd (show false = true from hs) Bool.false_ne_true
 | bl i =>
   cases rx
   cases y with
   | non => cases ry; exact PySem.EqNone.eq_bool_none (fin_bl I q (by simp))
   | bl j => cases ry; exact eq_bool (fin_bl I q dec_bl)
   | str j => obtain ⟨t', rfl⟩ := ry; exact PySem.EqMixed.eq_bool_str (fin_bl I q (by simp))
   | _ => exact absurd (show false = true from hs) Bool.false_ne_true
 | int i =>
   obtain ⟨t, rfl⟩ := rx
   cases y with
   | non => cases ry; exact PySem.EqNone.eq_int_none (fin_bl I q (by simp))
   | int j => obtain ⟨t', rfl⟩ := ry; exact eq_int (fin_bl I q dec_int)
   | str j => obtain ⟨t', rfl⟩ := ry; exact PySem.EqMixed.eq_int_str (fin_bl I q (by simp))
   | _ => exact absurd (show false = true from hs) Bool.false_ne_true
 | str i =>
   obtain ⟨t, rfl⟩ := rx
   cases y with
   | non => cases ry; exact PySem.EqNone.eq_str_none (fin_bl I q (by simp))
   | bl j => cases ry; exact PySem.EqMixed.eq_str_bool (fin_bl I q (by simp))
   | int j => obtain ⟨t', rfl⟩ := ry; exact PySem.EqMixed.eq_str_int (fin_bl I q (by simp))
   | str j => obtain ⟨t', rfl⟩ := ry; exact eq_str (fin_bl I q dec_str)
   | _ => exact absurd (show false = true from hs) Bool.false_ne_true
 | byt i =>
   obtain ⟨t, rfl⟩ := rx
   cases y with
   | byt j => obtain ⟨t', rfl⟩ := ry; exact PySem.W.eq_bytes (fin_bl I q dec_byt)
   | _ => exact absurd (show false = true from hs) Bool.false_ne_true
 | _ => cases y <;> exact absurd (show false = true from hs) Bool.false_ne_true
theorem op_gt : OpR X (compareOp .Gt) (rI0 fun i j => .bl (decide (j < i))) := opB0 fun _ _ _ _ _ _ _ q => gt_int q
theorem op_ge : OpR X (compareOp .GtE) (rI0 fun i j => .bl (decide (j ≤ i))) := opB0 fun _ _ _ _ _ _ _ q => ge_int q
theorem OpR.or {f : Value → Value → Sem Value} {r r' : R2} (h : OpR X f r) (h' : OpR X f r') : OpR X f (fun x y H Q => r x y H Q ∨ r' x y H Q) := by
 intro pins s σ H x y v u Q I rx ry q
 rcases q with q | q
 · exact h pins s σ H x y v u Q I rx ry q
 · exact h' pins s σ H x y v u Q I rx ry q
theorem nomark (b : Expr) {op : CmpOp} (h : op ≠ .In := by decide) (h2 : op ≠ .NotIn := by decide) : behindInMarks op b = false := by
 have e1 : (op == CmpOp.In) = false := by cases op <;> first | rfl | exact absurd rfl h
 have e2 : (op == CmpOp.NotIn) = false := by cases op <;> first | rfl | exact absurd rfl h2
 cases b <;> simp [behindInMarks, e1, e2]
theorem pe_cmpR {op : CmpOp} {r : R2} (ho : OpR X (compareOp op) r) (ha : PE X a ta) (hb : PE X b tb) (hm : behindInMarks op b = false) : PE X (.Compare a [op] [b] pos) (tOp r ta tb) := by
 intro pins s σ H Q I h
 exact wpAny_Compare1 (binT ha hb I h fun v u s2 x y H2 I2 rx ry q => ho pins s2 σ H2 x y v u Q I2 rx ry q) hm
def tTest (t : TE) : TT := fun σ H Q => t σ H fun x H' => ∃ k, x = .bl k ∧ Q k H'
theorem pt_cmpR {op : CmpOp} {r : R2} (ho : OpR X (compareOp op) r) (ha : PE X a ta) (hb : PE X b tb) (hm : behindInMarks op b = false) : PT X (.Compare a [op] [b] pos) (tTest (tOp r ta tb)) := by
 intro pins s σ H Q I h
 refine wpAny_isTrue_Compare1 (thn (ha pins s σ H _ I h) fun v s1 ⟨x, H1, I1, r1, q1⟩ => thn (hb pins s1 σ H1 _ I1 q1) fun u s2 ⟨y, H2, I2, r2, q2⟩ =>
   thn (ho pins s2 σ H2 x y v u _ I2 r1 r2 q2) fun c s3 ⟨z, H3, I3, r3, k, e, q3⟩ => ?_) hm
 subst e
 cases r3
 exact wpAny_truthy_bool ⟨H3, I3, q3⟩
theorem line63 : (sizeLine : Nat) < 2 ^ 63 := by rw [sizeLine_eq]; decide
theorem op_add_str : OpR X (binaryOp .Add) (fun x y H Q => ∃ i j, x = .str i ∧ y = .str j ∧ i.length + j.length ≤ sizeLine ∧ Q (.str (i ++ j)) H) := by
 intro pins s σ H x y v u Q I rx ry h
 obtain ⟨i, j, rfl, rfl, hz, q⟩ := h
 obtain ⟨t, rfl⟩ := rx
 obtain ⟨t', rfl⟩ := ry
 exact add_str (fun t' tk => ⟨.str (i ++ j), H, I.tok _, ⟨_, rfl⟩, q⟩) hz
theorem vals1 {x : V} {us : List Value} (r : Vals [x] us) : ∃ u, us = [u] ∧ RelV x u := by
 cases r with
 | cons r1 r2 => cases r2; exact ⟨_, rfl, r1⟩
theorem vals2 {x y : V} {us : List Value} (r : Vals [x, y] us) : ∃ u w', us = [u, w'] ∧ RelV x u ∧ RelV y w' := by
 cases r with
 | cons r1 r2 =>
   cases r2 with
   | cons r3 r4 => cases r4; exact ⟨_, _, rfl, r1, r3⟩
theorem call_max2 (hc : X.calm = true) : CallR X (.builtin "max") (fun xs H Q => ∃ i j, xs = [.int i, .int j] ∧ Q (.int (if j > i then j else i)) H) := by
 intro pins s σ H xs us Q I r h
 obtain ⟨i, j, rfl, q⟩ := h
 obtain ⟨u, w', rfl, ⟨t, rfl⟩, ⟨t', rfl⟩⟩ := vals2 r
 refine max_two_ints (I.ok.hd hc) fun h' tk k => ⟨_, H, I.kept k, ?_, q⟩
 by_cases hj : j > i
 · rw [if_pos hj, if_pos hj]; exact ⟨_, rfl⟩
 · rw [if_neg hj, if_neg hj]; exact ⟨_, rfl⟩
def LenV (K : PySem.W.Frag) (x : V) (H : Hp) (n : Nat) : Prop :=
 match x with
 | .str y => y.length ≤ sizeLine ∧ n = y.length
 | .byt y => y.size ≤ sizeLine ∧ n = y.size
 | .ref p => (∃ xs, SqL K H p xs ∧ n = xs.length) ∨ ∃ xs, SqT K H p xs ∧ n = xs.length
 | _ => False
theorem call_len : CallR X (.builtin "len") (fun xs H Q => ∃ x n, xs = [x] ∧ LenV X.K x H n ∧ Q (.int n) H) := by
 intro pins s σ H xs us Q I r h
 obtain ⟨x, n, rfl, e, q⟩ := h
 obtain ⟨u, rfl, rx⟩ := vals1 r
 have hl := line63
 have hs : sizeLine = 16777216 := sizeLine_eq
 cases x with
 | str y =>
   obtain ⟨t, rfl⟩ := rx
   obtain ⟨hy, e'⟩ : y.length ≤ sizeLine ∧ n = y.length := e
   subst e'
   exact len_str (by omega) ⟨.int _, H, I.tok _, ⟨_, rfl⟩, q⟩
 | byt y =>
   obtain ⟨t, rfl⟩ := rx
   obtain ⟨hy, e'⟩ : y.size ≤ sizeLine ∧ n = y.size := e
   subst e'
   exact PySem.W.len_bytes (by omega) ⟨.int _, H, I.tok _, ⟨_, rfl⟩, q⟩
 | ref p =>
   cases rx
   have e' : (∃ xs, SqL X.K H p xs ∧ n = xs.length) ∨ ∃ xs, SqT X.K H p xs ∧ n = xs.length := e
   rcases e' with ⟨xs, hx, e'⟩ | ⟨xs, hx, e'⟩
   · subst e'
     obtain ⟨its, r', pl, hz⟩ := I.list hx
     have hlen := r'.length
     exact Calls.call_len_list pl.isList (by simp only [List.size_toArray]; omega) ⟨.int xs.length, H, I.tok _, ⟨_, by simp only [List.size_toArray]; rw [hlen]⟩, q⟩
   · subst e'
     obtain ⟨its, r', pl, hz⟩ := I.tuple hx
     have hlen := r'.length
     exact len_tuple pl (by simp only [List.size_toArray]; omega) ⟨.int xs.length, H, I.tok _, ⟨_, by simp only [List.size_toArray]; rw [hlen]⟩, q⟩
 | _ => exact (show False from e).elim
end
end L2
namespace L2
open PySem PySem.Spec PyProof.Rows
theorem lookIn_ns {h : Heap} {dx : Addr} {mA : Str → Option Value} (n : h.Ns1 dx mA) : ∃ od, h.get? dx = some od ∧ ∀ name, PySem.W.lookIn name od = some (mA name) := by
 obtain ⟨o, es, ep, ho, hd, hk, _, hm⟩ := n
 refine ⟨o, ho, fun name => ?_⟩
 have e := hm name
 unfold nsFind findBy at e
 rw [← Array.find?_toList] at e
 unfold PySem.W.lookIn
 rw [hd]
 dsimp only
 split
 · rename_i y q
   rw [q] at e
   exact congrArg some e
 · rename_i q
   rw [q] at e
   have a : es.toList.any (·.refKey) = false := by
     rw [List.any_eq_false]
     intro y hy
     obtain ⟨z, t, hkey⟩ := hk y (Array.mem_toList_iff.mp hy)
     simp [DictEntry.refKey, hkey]
   have a' : ¬ es.toList.any (·.refKey) = true := by rw [a]; exact Bool.false_ne_true
   rw [if_neg a']
   exact congrArg some e
def putF (f : Str) (v : V) : List (Str × V) → List (Str × V)
 | [] => [(f, v)]
 | (g, x) :: r => if g = f then (g, v) :: r else (g, x) :: putF f v r
theorem lookup_putF (f g : Str) (v : V) : ∀ fs : List (Str × V), (putF f v fs).lookup g = if g = f then some v else fs.lookup g
 | [] => by
   show List.lookup g [(f, v)] = _
   by_cases h : g = f
   · have hb : (g == f) = true := beq_iff_eq.mpr h
     simp only [List.lookup, hb, if_pos h]
   · have hb : (g == f) = false := beq_eq_false_iff_ne.mpr h
     simp only [List.lookup, hb, if_neg h]
 | (k, x) :: r => by
   have ih := lookup_putF f g v r
   rw [show putF f v ((k, x) :: r) = (if k = f then (k, v) :: r else (k, x) :: putF f v r) from rfl]
   by_cases hk : k = f
   · rw [if_pos hk]
     by_cases h : g = k
     · have hb : (g == k) = true := beq_iff_eq.mpr h
       simp only [List.lookup, hb, if_pos (h.trans hk)]
     · have hb : (g == k) = false := beq_eq_false_iff_ne.mpr h
       simp only [List.lookup, hb, if_neg (fun e : g = f => h (e.trans hk.symm))]
   · rw [if_neg hk]
     by_cases h : g = k
     · have hb : (g == k) = true := beq_iff_eq.mpr h
       simp only [List.lookup, hb, if_neg (fun e : g = f => hk (h.symm.trans e))]
     · have hb : (g == k) = false := beq_eq_false_iff_ne.mpr h
       simp only [List.lookup, hb]
       exact ih
theorem RelO.some_of {v : V} {o : Option Value} (r : RelO (some v) o) : ∃ u, o = some u ∧ RelV v u := by
 cases o with
 | none => exact (show False from r).elim
 | some u => exact ⟨u, rfl, r⟩
section
variable {X : Cx} {pins : List (Addr × Obj)} {σ : St} {H : Hp} {s : Shared} {a C dx : Addr} {fs : List (Str × V)} {f : Str} {v : V} {A : Around} {E : Value → Shared → Prop}
theorem attr_of {prog : Program} {w : World} {env : Env} {e : Expr} {f : Str} {pos : Pos} {s : Shared} {Q : Value → Shared → Prop} (hb : attributeBase e f env (eval e env) = eval e env)
   (h : wpAny (model prog w) A (eval e env) (fun o s₁ => wpAny (model prog w) A (getAttr o f true) Q E s₁) E s) : wpAny (model prog w) A (eval (.Attribute e f pos) env) Q E s :=
 Attribute_any_ h (by rw [arm_eval_Attribute, hb])
end
end L2
namespace L2
open PySem PySem.Spec PyProof.Rows
structure Room (k : Nat) (A : Around) : Prop where
 hd : A.handled = none
 dp : A.depth + 3 * k + 5 < recursionLimit
 un : A.units + 16 * k + 200 < cLine
 gd : A.guards = some []
theorem Room.mono {j k : Nat} {A : Around} (r : Room k A) (h : j ≤ k) : Room j A := ⟨r.hd, by have := r.dp; omega, by have := r.un; omega, r.gd⟩
theorem Room.deeper {k : Nat} {A : Around} (r : Room (k + 1) A) (env : Env) : Room k (A.deeper env) :=
 ⟨r.hd, by have := r.dp; show A.depth + 1 + 3 * k + 5 < _; omega, by have := r.un; show A.units + 3 + 16 * k + 200 < _; omega, r.gd⟩
theorem make_depth {A : Around} {C : Addr} {us : List Value} {kw : List (Str × Value)} : (A.under (.builtin "type.__call__" ⟨.ref C :: us, kw⟩)).depth = A.depth + 1 := by
 first | rfl | simp [Around.under, Code.weight, Code.isCreation, Code.isGuard, Code.isCaller, Code.frames, Code.isFrame, guardIds]
theorem make_units {A : Around} {C : Addr} {us : List Value} {kw : List (Str × Value)} : (A.under (.builtin "type.__call__" ⟨.ref C :: us, kw⟩)).units = A.units + 1 := by
 first | rfl | simp [Around.under, Code.cUnits, Code.frames, Code.isFrame]
theorem Room.make {k : Nat} {A : Around} (r : Room (k + 1) A) (C : Addr) (us : List Value) (kw : List (Str × Value)) : Room k (A.under (.builtin "type.__call__" ⟨.ref C :: us, kw⟩)) :=
 ⟨r.hd, by have := r.dp; rw [make_depth]; omega, by have := r.un; rw [make_units]; omega, by first | exact r.gd | (simpa [Around.under, Code.isGuard, guardIds] using r.gd)⟩
theorem Room.depth {k : Nat} {A : Around} (r : Room k A) : A.depth < recursionLimit := by have := r.dp; omega
theorem Room.units {k : Nat} {A : Around} (r : Room k A) : A.units + 64 < cLine := by have := r.un; omega
def tNil : TA := fun _ H Q => Q [] H
def tCons (ta : TE) (tr : TA) : TA := fun σ H Q => ta σ H fun x H1 => tr σ H1 fun xs H2 => Q (x :: xs) H2
section
variable {X : Cx} {e : Expr} {es : List Expr} {te : TE} {t : TA} {pos : Pos}
theorem pa_nil : PA X [] tNil := fun _ _ _ _ H Q I h => Calls.spliced_nil ⟨[], H, I, .nil, h⟩
theorem pa_cons (ha : PE X e te) (hr : PA X es t) (hs : starEach (e :: es) X.env = (false, eval e X.env) :: starEach es X.env := by rfl) : PA X (e :: es) (tCons te t) := by
 intro pos pins s σ H Q I h
 rw [hs]
 show wpAny _ _ (spliced ((false, eval e X.env) :: backTo pos (starEach es X.env))) _ _ s
 refine Calls.spliced_cons (thn (ha pins s σ H _ I h) fun u s1 ⟨x, H1, I1, r1, q1⟩ => ?_)
 exact thn (hr pos pins s1 σ H1 _ I1 q1) fun us s2 ⟨xs, H2, I2, r2, q2⟩ => ⟨x :: xs, H2, I2, .cons r1 r2, q2⟩
def tTup (t : TA) : TE := fun σ H Q => t σ H fun xs H1 => xs.length ≤ sizeLine ∧ ∀ p, H1 p = none → Q (.ref p) (upd H1 p (.tup xs))
def tLst (t : TA) : TE := fun σ H Q => t σ H fun xs H1 => xs.length ≤ sizeLine ∧ ∀ p, H1 p = none → Q (.ref p) (upd H1 p (.lst xs))
theorem pe_tup {x1} (h : PA X es t) : PE X (.Tuple es x1 pos) (tTup t) := by
 intro pins s σ H Q I hq
 refine wpAny_Tuple_spliced (thn (h pos pins s σ H _ I hq) fun us s1 ⟨xs, H1, I1, r, z, q⟩ => ⟨by rw [← r.length]; exact z, ?_⟩)
 have hf : H1 s1.heap.objs.size = none := I1.hok.fresh (Nat.le_refl _)
 refine ⟨.ref s1.heap.objs.size, upd H1 s1.heap.objs.size (.tup xs), I1.laid (t' := s1.toks) (fun b u e => Heap.get?_push_of_some _ e) (Nat.le_refl _) ?_, rfl, q _ hf⟩
 exact ⟨z, us, r, ⟨_, Heap.get?_push_size _ rfl, rfl, _, rfl⟩⟩
theorem pe_lst (h : PA X es t) : PE X (.List es pos) (tLst t) := by
 intro pins s σ H Q I hq
 refine wpAny_List_spliced (thn (h pos pins s σ H _ I hq) fun us s1 ⟨xs, H1, I1, r, z, q⟩ => ⟨by rw [← r.length]; exact z, ?_⟩)
 have hf : H1 s1.heap.objs.size = none := I1.hok.fresh (Nat.le_refl _)
 refine ⟨.ref s1.heap.objs.size, upd H1 s1.heap.objs.size (.lst xs), I1.laid (t' := s1.toks) (fun b u e => Heap.get?_push_of_some _ e) (Nat.le_refl _) ?_, rfl, q _ hf⟩
 exact ⟨z, us, 0, r, Heap.get?_push_size _ rfl⟩
end
abbrev Sp := List V → Hp → VK → XK → Prop
abbrev CXT := List Env → Hp → Shared → XK → Value → Shared → Prop
structure Env0 (P : Program) (w : World) (K : PySem.W.Frag) (mg : Str → Option Value) (base : Heap) (A : Around) (outer : List Env) (s : Shared) (H : Hp) : Prop where
 frames : A.frames = some outer
 mod : Mod K mg base
 bs : ∀ b o, base.get? b = some o → s.heap.get? b = some o ∧ H b = none
 bsz : base.objs.size ≤ s.heap.objs.size
 funs : s.heap.FunFrames base outer
 frf : ∀ b ∈ frs outer, H b = none
 hok : HOk P w H s.heap
 bare : AllBare s.gens
def CE (outer : List Env) (P : Program) (w : World) (H : Hp) (s : Shared) (Q : VK) (u : Value) (s' : Shared) : Prop :=
 ∃ v H', s'.os = s.os ∧ AllBare s'.gens ∧ Un (frs outer) [] H H' s.heap s'.heap ∧ HOk P w H' s'.heap ∧ RelV v u ∧ Q v H'
def CR (CX : CXT) (outer : List Env) (P : Program) (w : World) (H : Hp) (s : Shared) (Q : VK) (E : XK) (r : Result) (s' : Shared) : Prop :=
 match r with
 | .ok (.ret u) => CE outer P w H s Q u s'
 | .ok _ => False
 | .error e => CX outer H s E e s'
structure FnOk (P : Program) (w : World) (K : PySem.W.Frag) (mg : Str → Option Value) (base : Heap) (CX : CXT) (k : Nat) (f : Addr) (fd : FuncData) (ps : List Str) (sp : Sp) : Prop where
 len : ∀ vs H Q E, sp vs H Q E → vs.length = ps.length
 run : ∀ (A : Around) (outer : List Env) (s : Shared) (H : Hp) (args : Args) (us : List Value) (vs : List V) (Q : VK) (E : XK), Room k A → Env0 P w K mg base A outer s H → BindsTo s fd args (ps.zip us) → Vals vs us → sp vs H Q E →
   codeAny (model P w) A (.call (.ref f) args) (CR CX outer P w H s Q E) s
theorem FnOk.mono {P : Program} {w : World} {K : PySem.W.Frag} {mg : Str → Option Value} {base : Heap} {CX : CXT} {j k : Nat} {f : Addr} {fd : FuncData} {ps : List Str} {sp : Sp} (F : FnOk P w K mg base CX j f fd ps sp) (h : j ≤ k) :
   FnOk P w K mg base CX k f fd ps sp := ⟨F.len, fun A outer s H args us vs Q E hr => F.run A outer s H args us vs Q E (hr.mono h)⟩
theorem Env0.make {P : Program} {w : World} {K : PySem.W.Frag} {mg : Str → Option Value} {base : Heap} {A : Around} {outer : List Env} {s : Shared} {H : Hp} (e : Env0 P w K mg base A outer s H) (C : Addr) (us : List Value) (kw : List (Str × Value)) :
   Env0 P w K mg base (A.under (.builtin "type.__call__" ⟨.ref C :: us, kw⟩)) outer s H := ⟨by first | exact e.frames | (simpa [Around.under, Code.envs, Code.isFrame, pushEnvs] using e.frames), e.mod, e.bs, e.bsz, e.funs, e.frf, e.hok, e.bare⟩
section
variable {X : Cx} {pins : List (Addr × Obj)} {σ : St} {H : Hp} {s s' : Shared}
theorem Inv.env0 (I : Inv X pins σ H s) : Env0 X.prog X.w X.K X.mg X.base X.A X.stack s H :=
 ⟨I.ok.frames, I.ok.mod, I.bs, Nat.le_trans I.ok.bsz I.sz, I.stack, I.stkFree, I.hok, I.bare⟩
theorem Inv.after {Q : VK} {u : Value} (I : Inv X pins σ H s) (h : CE X.stack X.prog X.w H s Q u s') : EP X pins σ Q u s' := by
 obtain ⟨v, H', os, bare, un, hok, r, q⟩ := h
 obtain ⟨hh, g, d, t, os'⟩ := s'
 obtain rfl : os' = s.os := os
 exact ⟨v, H', I.call (h' := hh) (g' := g) (d' := d) (t' := t) (ch := []) un hok bare (fun b z => absurd z (by simp)), r, q⟩
end
def tCall (sp : Sp) (dvs : List V) (E : XK) (t : TA) : TE := fun σ H Q => t σ H fun vs H1 => sp (vs ++ dvs) H1 Q E
def Binds (K : PySem.W.Frag) (fd : FuncData) (ps : List Str) (ds : List Value) : Prop :=
 ∀ (s : Shared) (us : List Value), K.In s.heap → (us ++ ds).length = ps.length → BindsTo s fd ⟨us, []⟩ (ps.zip (us ++ ds))
theorem Binds.all {K : PySem.W.Frag} {fd : FuncData} {ps : List Str} (h : ∀ us : List Value, us.length = ps.length → bindArgs fd ⟨us, []⟩ = pure (ps.zip us)) : Binds K fd ps [] := fun s us _ hl => by
 rw [List.append_nil] at hl ⊢
 exact .of_eq (h us hl)
def Passes (CX : CXT) (X : Cx) (E : XK) : Prop := ∀ (pins : List (Addr × Obj)) (σ : St) (H : Hp) (s : Shared) (e : Value) (s' : Shared), Inv X pins σ H s → CX X.stack H s E e s' → X.xe e s'
section
variable {X : Cx} {CX : CXT} {k : Nat} {f C : Addr} {fd : FuncData} {ps : List Str} {sp : Sp} {dvs : List V} {ds : List Value} {E : XK} {x m : Str} {p pos apos : Pos} {e o : Expr} {es : List Expr} {ta : TE} {t : TA}
theorem run_fn {pins : List (Addr × Obj)} {σ : St} {H : Hp} {s : Shared} {Q : VK} {us : List Value} {vs : List V} (F : FnOk X.prog X.w X.K X.mg X.base CX k f fd ps sp) (hr : Room k X.A) (hb : Binds X.K fd ps ds) (hd : Vals dvs ds) (hx : Passes CX X E)
   (I : Inv X pins σ H s) (r : Vals vs us) (h : sp (vs ++ dvs) H Q E) : wpAny (model X.prog X.w) X.A (call (.ref f) us) (EP X pins σ Q) X.xe s := by
 have r2 : Vals (vs ++ dvs) (us ++ ds) := r.append hd
 have hl : (us ++ ds).length = ps.length := by rw [← r2.length]; exact F.len _ _ _ _ h
 refine wpAny_call (codeAny_mono (F.run X.A X.stack s H ⟨us, []⟩ (us ++ ds) (vs ++ dvs) Q E hr I.env0 (hb s us I.kIn hl) r2 h) fun r s' hq => ?_)
 cases r with
 | error e => exact hx pins σ H s e s' I hq
 | ok fl =>
   cases fl with
   | ret u => exact I.after hq
   | next => exact False.elim hq
   | brk => exact False.elim hq
   | cont => exact False.elim hq
theorem pe_call (F : FnOk X.prog X.w X.K X.mg X.base CX k f fd ps sp) (hr : Room k X.A) (hg : Gl X x) (hm : X.mg x = some (.ref f)) (hk : PySem.W.keepIn X.K (.ref f) = true) (hb : Binds X.K fd ps ds) (hd : Vals dvs ds) (hx : Passes CX X E)
   (ha : PA X (e :: es) t) (hdb : (x == ("__debug__" : Str)) = false := by decide) (he : starEach (e :: es) X.env = (false, eval e X.env) :: starEach es X.env := by rfl) (hpl : (backTo pos (starEach es X.env)).any (·.1) = false := by rfl) :
   PE X (.Call (.Name x p) (e :: es) [] pos) (tCall sp dvs E t) := by
 intro pins s σ H Q I h
 refine wpAny_Call_Name_kw (ld_glob I hg hm ?_ hdb)
 refine PySem.W.callWith_K (h₀ := X.base) I.ok.mod.kin hk (thn (ha pos pins s σ H _ I h) fun us s1 ⟨vs, H1, I1, r, q⟩ => ⟨I1.kIn, ?_⟩) he hpl
 exact run_fn F hr hb hd hx I1 r q
end
structure FnScope (N P : List Str) (sc : Scope) : Prop where
 kind : sc.kind = .function
 co : sc.isCoroutine = false
 gen : sc.isGenerator = false
 nd : N.Nodup
 pre : N.take P.length = P
 par : ∀ x ∈ P, sc.names.lookup x = some .local ∨ sc.names.lookup x = some .cell
 nofree : ∀ y ∈ sc.names, y.2 ≠ .free
theorem bindL_out {kindOf : Str → Option NameKind} {x : Str} : ∀ {binds : List (Str × Value)} {m : Str → Option Value}, (∀ v, (x, v) ∉ binds) → bindL kindOf binds m x = m x
 | [], _, _ => rfl
 | (n, v) :: r, m, h => by
   unfold bindL
   rw [bindL_out fun w hw => h w (List.mem_cons_of_mem _ hw)]
   split
   · have : x ≠ n := by rintro rfl; exact h v List.mem_cons_self
     simp [this]
   · rfl
theorem bindC_out {kindOf : Str → Option NameKind} {x : Str} : ∀ {binds : List (Str × Value)} {m : Str → Option Value}, (∀ v, (x, v) ∉ binds) → bindC kindOf binds m x = m x
 | [], _, _ => rfl
 | (n, v) :: r, m, h => by
   unfold bindC
   rw [bindC_out fun w hw => h w (List.mem_cons_of_mem _ hw)]
   split
   · rfl
   · have : x ≠ n := by rintro rfl; exact h v List.mem_cons_self
     simp [this]
theorem bindL_get {kindOf : Str → Option NameKind} {x : Str} {v : Value} : ∀ {P : List Str} {vs : List Value} {i : Nat} {m : Str → Option Value}, P.Nodup → P[i]? = some x → vs[i]? = some v → kindOf x = some .local →
   bindL kindOf (P.zip vs) m x = some v
 | [], _, _, _, _, h, _, _ => by simp at h
 | _ :: _, [], _, _, _, _, h, _ => by simp at h
 | p :: P, w :: vs, 0, m, nd, h1, h2, hk => by
   simp at h1 h2; subst h1; subst h2
   show bindL kindOf ((p, w) :: P.zip vs) m p = _
   unfold bindL
   rw [bindL_out fun v hv => (List.nodup_cons.mp nd).1 (List.of_mem_zip hv).1, if_pos hk]
   simp
 | p :: P, w :: vs, i + 1, m, nd, h1, h2, hk => by
   show bindL kindOf ((p, w) :: P.zip vs) m x = _
   unfold bindL
   exact bindL_get (i := i) (List.nodup_cons.mp nd).2 (by simpa using h1) (by simpa using h2) hk
theorem bindC_get {kindOf : Str → Option NameKind} {x : Str} {v : Value} : ∀ {P : List Str} {vs : List Value} {i : Nat} {m : Str → Option Value}, P.Nodup → P[i]? = some x → vs[i]? = some v → kindOf x ≠ some .local →
   bindC kindOf (P.zip vs) m x = some v
 | [], _, _, _, _, h, _, _ => by simp at h
 | _ :: _, [], _, _, _, _, h, _ => by simp at h
 | p :: P, w :: vs, 0, m, nd, h1, h2, hk => by
   simp at h1 h2; subst h1; subst h2
   show bindC kindOf ((p, w) :: P.zip vs) m p = _
   unfold bindC
   rw [bindC_out fun v hv => (List.nodup_cons.mp nd).1 (List.of_mem_zip hv).1, if_neg hk]
   simp
 | p :: P, w :: vs, i + 1, m, nd, h1, h2, hk => by
   show bindC kindOf ((p, w) :: P.zip vs) m x = _
   unfold bindC
   exact bindC_get (i := i) (List.nodup_cons.mp nd).2 (by simpa using h1) (by simpa using h2) hk
def start (N : List Str) (vs : List V) : St := vs.map some ++ List.replicate (N.length - vs.length) none
def cxOf (CX : CXT) (P : Program) (w : World) (K : PySem.W.Frag) (mg : Str → Option Value) (base : Heap) (N : List Str) (qual : Str) (scope : Scope) (f : Addr) (cd : Value) (A : Around) (outer : List Env) (s : Shared) (H : Hp) (E : XK) : Cx where
 prog := P
 w := w
 K := K
 mg := mg
 base := base
 A := A.deeper (envOfC qual scope s.heap.objs.size f cd)
 N := N
 s₀ := s
 H₀ := H
 env := envOfC qual scope s.heap.objs.size f cd
 outer := outer
 stack := envOfC qual scope s.heap.objs.size f cd :: outer
 ex := []
 calm := true
 fn := fun _ => true
 pn := []
 xe := fun e s' => wpAny (model P w) (A.deeper (envOfC qual scope s.heap.objs.size f cd)) (leaving (envOfC qual scope s.heap.objs.size f cd) e) (fun _ s'' => CX outer H s E e s'') (fun e' s'' => CX outer H s E e' s'') s'
theorem cell_has {sc : Scope} {n : Nat} {x : Str} (h : sc.names.lookup x = some .cell) : ∃ c, (cellsFrom n sc.names []).lookup x = some c := by
 have q := PySem.W.cellsFrom_some sc.names n [] (.inl h)
 exact Option.isSome_iff_exists.mp q
theorem inv_start {CX : CXT} {P : Program} {w : World} {K : PySem.W.Frag} {mg : Str → Option Value} {base : Heap} {N ps : List Str} {qual : Str} {scope : Scope} {f : Addr} {cd : Value} {A : Around} {outer : List Env} {s s1 : Shared} {H : Hp} {E : XK} {us : List Value} {vs : List V}
   (S : FnScope N ps scope) (hd : A.handled = none) (e0 : Env0 P w K mg base A outer s H) (hl : vs.length = ps.length) (r : Vals vs us)
   (x : InCallC s s.heap.objs.size (bindL (envOfC qual scope s.heap.objs.size f cd).kindOf (ps.zip us) fun _ => none) (cellsFrom (s.heap.objs.size + 1) scope.names []) (bindC (envOfC qual scope s.heap.objs.size f cd).kindOf (ps.zip us) fun _ => none) s1) :
   Inv (cxOf CX P w K mg base N qual scope f cd A outer s H E) [] (start N vs) H s1 := by
 have hpl : ps.length ≤ N.length := by have := congrArg List.length S.pre; rw [List.length_take] at this; omega
 obtain ⟨h1, tk, rfl, hk⟩ := x.done
 have noA : ∀ b : Addr, b ∉ (cxOf CX P w K mg base N qual scope f cd A outer s H E).ex := fun b z => absurd (show b ∈ ([] : List Addr) from z) (by simp)
 refine ⟨⟨e0.mod, S.kind, rfl, rfl, Nat.le_refl _, fun y z c h1 h2 => ?_, fun y hy => ?_, fun y c _ h => ?_, fun _ => hd, Around.frames_deeper e0.frames, .inr ⟨rfl, rfl⟩, fun b z => absurd z (noA b), e0.bs, e0.bsz, fun b _ _ => noA b, fun b z => absurd z (noA b), e0.funs, e0.frf⟩,
   rfl, e0.bare, Un.kept hk, ⟨_, x.toInCall.ns, fun i y v h1 h2 h3 => ?_⟩, fun y c h => ⟨_, x.cell y c h⟩, e0.hok.fresh (Nat.le_refl _), fun y c h => ?_, fun p hp => absurd (show p ∈ ([] : List (Addr × Obj)) from hp) (by simp), e0.hok.kept hk, ?_⟩
 · exact name_of_addr x.apart (PySem.mem_of_lookup h1) (PySem.mem_of_lookup h2)
 · have hy : scope.names.lookup y = some .cell ∨ scope.names.lookup y = some .free := hy
   rcases hy with hy | hy
   · exact cell_has hy
   · exact absurd rfl (S.nofree _ (PySem.mem_of_lookup hy))
 · exact Nat.le_of_lt (x.above y c (PySem.mem_of_lookup h))
 · have hi : i < vs.length := by
     unfold start at h2
     by_cases hi : i < vs.length
     · exact hi
     · rw [List.getElem?_append_right (by simpa using hi)] at h2
       rw [List.getElem?_replicate] at h2
       split at h2 <;> cases h2
   have ha : vs[i]? = some v := by
     unfold start at h2
     rw [List.getElem?_append_left (by simpa using hi), List.getElem?_map] at h2
     cases e : vs[i]? with
     | none => rw [e] at h2; cases h2
     | some a => rw [e] at h2; cases h2; rfl
   obtain ⟨u, hu, rv⟩ := r.get ha
   have hp : ps[i]? = some y := by
     rw [← S.pre, List.getElem?_take_of_lt (by omega)]; exact h1
   have ndP : ps.Nodup := by rw [← S.pre]; exact S.nd.sublist (List.take_sublist _ _)
   refine ⟨u, rv, ?_⟩
   rcases S.par y (List.mem_of_getElem? hp) with k | k
   · exact .inl ⟨k, bindL_get ndP hp hu k⟩
   · obtain ⟨c, e⟩ := cell_has (n := s.heap.objs.size + 1) k
     refine .inr ⟨.inl k, c, e, ?_⟩
     have q := x.cell y c e
     rw [bindC_get ndP hp hu (by show scope.names.lookup y ≠ _; rw [k]; decide)] at q
     exact q
 · exact e0.hok.fresh (Nat.le_of_lt (x.above y c (PySem.mem_of_lookup h)))
 · unfold start
   show _ = N.length
   rw [List.length_append, List.length_map, List.length_replicate]
   omega
theorem fn_of {CX : CXT} {P : Program} {w : World} {K : PySem.W.Frag} {mg : Str → Option Value} {base : Heap} {k : Nat} {f : Addr} {name qual : Str} {params : Arguments} {body : List Stmt} {scope : Scope} {dV kV doc pm cdv ct oc : Value} {an od : Option Addr}
   {osl : Array (Option Value)} {N ps : List Str} {sp : Sp} (lk : K.lookup f = some ⟨oc, od, .func (PySem.W.fnOf name qual params body scope dV kV doc pm an cdv ct), osl⟩) (hcd : PySem.W.codeIn K cdv qual = true) (S : FnScope N ps scope)
   (len : ∀ vs H Q E, sp vs H Q E → vs.length = ps.length)
   (hbody : ∀ (A : Around) (outer : List Env) (s : Shared) (H : Hp) (vs : List V) (Q : VK) (E : XK), Room k (A.deeper (envOfC qual scope s.heap.objs.size f cdv)) → sp vs H Q E →
     ∃ t, PSs (cxOf CX P w K mg base N qual scope f cdv A outer s H E) body t ∧ t { nx := fun _ H' => Q .non H', rt := Q } (start N vs) H) :
   FnOk P w K mg base CX (k + 1) f (PySem.W.fnOf name qual params body scope dV kV doc pm an cdv ct) ps sp := by
 refine ⟨len, fun A outer s H args us vs Q E hr e0 hb r hsp => ?_⟩
 have hl := len _ _ _ _ hsp
 have KX : K.In s.heap := e0.mod.kin.keeps fun b o e => (e0.bs b o e).1
 have lim : s.heap.NoLimit := e0.mod.nolimit.keeps fun b o e => (e0.bs b o e).1
 have hkind : ∀ y ∈ ps.zip us, scope.names.lookup y.1 = some .local ∨ (scope.names.lookup y.1 = some .cell ∧ ((cellsFrom (s.heap.objs.size + 1) scope.names []).lookup y.1).isSome = true) := fun ⟨n, v⟩ hy => by
   rcases S.par n (List.of_mem_zip hy).1 with q | q
   · exact .inl q
   · exact .inr ⟨q, PySem.W.cellsFrom_some _ _ _ (.inl q)⟩
 refine codeAny_call_function hr.depth (KX _ _ lk) rfl S.co S.gen rfl (PySem.W.codeRec_of KX hcd) (hb _ _ _ _ ?_)
 refine wpAny_newFunctionEnv_cells S.kind hkind fun env he s1 x => ?_
 subst he
 refine ⟨lim.keeps x.toInCall.keep, codeAny_func ?_⟩
 obtain ⟨t, ht, hq⟩ := hbody A outer s H vs Q E (hr.deeper _) hsp
 have I : Inv (cxOf CX P w K mg base N qual scope f cdv A outer s H E) [] (start N vs) H s1 := inv_start S hr.hd e0 hl r x
 refine wpAny_mono (ht [] s1 (start N vs) H _ I hq) (fun fl s' hs => ?_) fun e s' hs => hs
 have fin : ∀ {σ' : St} {H' : Hp} {v : V} {u : Value}, Inv (cxOf CX P w K mg base N qual scope f cdv A outer s H E) [] σ' H' s' → RelV v u → Q v H' → CE outer P w H s Q u s' :=
   fun {σ' H' v u} J rv q => ⟨v, H', J.os, J.bare, J.base, J.hok, rv, q⟩
 cases fl with
 | ret u =>
   obtain ⟨v, σ', H', J, rv, q⟩ := hs
   exact fin J rv q
 | next =>
   obtain ⟨σ', H', J, q⟩ := hs
   exact fin (v := V.non) (u := Value.none) J rfl q
 | brk =>
   obtain ⟨_, _, _, q⟩ := hs
   exact False.elim q
 | cont =>
   obtain ⟨_, _, _, q⟩ := hs
   exact False.elim q
end L2
namespace L2
open PySem PySem.Spec PyProof.Rows
section
variable {X : Cx} {x : Str} {p pos : Pos} {e : Expr} {es : List Expr} {t : TA} {id T : String} {r : List V → Hp → VK → Prop}
def tCB (r : List V → Hp → VK → Prop) (t : TA) : TE := fun σ H Q => t σ H fun vs H1 => r vs H1 Q
theorem pe_callB (hc : CallR X (.builtin id) r) (hg : Gl X x) (hm : X.mg x = none) (hv : bootBuiltins x = some (.builtin id)) (ha : PA X (e :: es) t) (hn : x ≠ "__name__" := by decide) (hdb : (x == ("__debug__" : Str)) = false := by decide)
   (he : starEach (e :: es) X.env = (false, eval e X.env) :: starEach es X.env := by rfl) (hpl : (backTo pos (starEach es X.env)).any (·.1) = false := by rfl) : PE X (.Call (.Name x p) (e :: es) [] pos) (tCB r t) := by
 intro pins s σ H Q I h
 refine wpAny_Call_Name_kw (ld_blt I hg hm hv ?_ hn hdb)
 exact PyProof.Rows.callWith_builtin1 (thn (ha pos pins s σ H _ I h) fun us s1 ⟨vs, H1, I1, r1, q1⟩ => hc pins s1 σ H1 vs us Q I1 r1 q1) he hpl
end
end L2
namespace HT
open PySem PyProof.Rows
section
variable {prog : Program} {w : World} {A : Around} {E : Value → Shared → Prop} {s : Shared}
theorem cat_tup {t b : Addr} {vs ws : List Value} {Q : Value → Shared → Prop} (ht : IsTup s.heap t vs.toArray) (hb : IsTup s.heap b ws.toArray) (hv : vs ≠ [])
   (h1 : ws = [] → Q (.ref t) s) (h2 : ws ≠ [] → Q (.ref s.heap.objs.size) { s with heap := s.heap.push { cls := .type "tuple", data := .seq (vs ++ ws).toArray } })
   (hsz : vs.length + ws.length ≤ sizeLine) : wpAny (model prog w) A (binaryOp .Add (.ref t) (.ref b)) Q E s := by
 obtain ⟨⟨cls, dd, data, sl⟩, ho, hc, n, hd⟩ := id ht
 obtain ⟨⟨cls2, dd2, data2, sl2⟩, ho2, hc2, n2, hd2⟩ := id hb
 simp only at hc hd hc2 hd2
 subst hc hd hc2 hd2
 have e : vs.toArray ++ ws.toArray = (vs ++ ws).toArray := by simp
 by_cases hw : ws = []
 · exact concat_meets ⟨_, ho, rfl⟩ ⟨_, ho2, rfl⟩ noFill_tuple_add seq_tuple_add PySem.F.slot_tuple_add PySem.F.entry_tuple_add (PySem.F.args_tuple_add_2 _ _)
     (tuple_addW1 t b vs.toArray ws.toArray n n2 dd dd2 sl sl2 (by simpa using hv) (by simp [hw])) ⟨ho, ho2, h1 hw⟩
 · refine concat_meets ⟨_, ho, rfl⟩ ⟨_, ho2, rfl⟩ noFill_tuple_add seq_tuple_add PySem.F.slot_tuple_add PySem.F.entry_tuple_add (PySem.F.args_tuple_add_2 _ _)
     (tuple_addW2 t b vs.toArray ws.toArray n n2 dd dd2 sl sl2 (by simpa using hv) (by simpa using hw) (by rw [List.size_toArray, List.size_toArray]; exact hsz)) ⟨ho, ho2, ?_⟩
   rw [e]
   exact h2 hw
def sIx (n d : Nat) : Option Int → Nat
 | none => d
 | some v => if v < 0 then (v + (n : Int)).toNat else min v.toNat n
end
end HT
namespace L2
open PySem PySem.Spec PyProof.Rows
abbrev TO := St → Hp → (Option Int → Hp → Prop) → Prop
def PO (X : Cx) (e : Option Expr) (t : TO) : Prop :=
 ∀ (pins : List (Addr × Obj)) (s : Shared) (σ : St) (H : Hp) (Q : Option Int → Hp → Prop), Inv X pins σ H s → t σ H Q →
   wpAny (model X.prog X.w) X.A (evalPart e X.env) (fun u s' => ∃ o H', Inv X pins σ H' s' ∧ IsPart u o ∧ Q o H') X.xe s
def tPart (t : TE) : TO := fun σ H Q => t σ H fun x H1 => ∃ i, x = .int i ∧ Q (some i) H1
section
variable {X : Cx} {e : Expr} {te : TE} {lo hi : Option Expr} {tl th : TO} {pos p2 : Pos}
theorem po_some (h : PE X e te) : PO X (some e) (tPart te) := by
 intro pins s σ H Q I hw
 rw [evalPart_some]
 refine thn (h pins s σ H _ I hw) fun u s1 ⟨x, H1, I1, r1, q1⟩ => ?_
 obtain ⟨i, rfl, q⟩ := q1
 obtain ⟨t, rfl⟩ := r1
 exact ⟨some i, H1, I1, .int i t, q⟩
def SlR (X : Cx) (r : V → Option Int → Option Int → Hp → VK → Prop) : Prop :=
 ∀ (pins : List (Addr × Obj)) (s : Shared) (σ : St) (H : Hp) (x : V) (v vl vu : Value) (lo hi : Option Int) (sl : Addr) (Q : VK), Inv X pins σ H s → RelV x v → s.heap.IsSliceOf sl vl vu .none → IsPart vl lo → IsPart vu hi → r x lo hi H Q →
   ∃ T id, typeLookup (.type T) "__getitem__" = pure (some (.builtin id)) ∧ s.TypeIs v T ∧ wpAny (model X.prog X.w) X.A (getItem v (.ref sl)) (EP X pins σ Q) X.xe s
def tSl (r : V → Option Int → Option Int → Hp → VK → Prop) (te : TE) (tl th : TO) : TE := fun σ H Q => te σ H fun x H1 => tl σ H1 fun l H2 => th σ H2 fun u H3 => r x l u H3 Q
theorem pe_slice {r : V → Option Int → Option Int → Hp → VK → Prop} (hr : SlR X r) (he : PE X e te) (hl : PO X lo tl) (hu : PO X hi th) : PE X (.Subscript e (.Slice lo hi none p2) pos) (tSl r te tl th) := by
 intro pins s σ H Q I h
 refine Subscript_ (thn (he pins s σ H _ I h) fun v s1 ⟨x, H1, I1, r1, q1⟩ => ?_)
 refine wpAny_Slice (thn (hl pins s1 σ H1 _ I1 q1) fun vl s2 ⟨l, H2, I2, pl, q2⟩ => thn (hu pins s2 σ H2 _ I2 q2) fun vu s3 ⟨u, H3, I3, pu, q3⟩ => ?_)
 rw [evalPart_none]
 refine wpAny_pure ?_
 have I4 : Inv X pins σ H3 { s3 with heap := s3.heap.push { cls := .type "slice", data := .fields #[vl, vu, .none] } } := I3.kept (t' := s3.toks) fun b ob q => Heap.get?_push_of_some _ q
 obtain ⟨T, id, hT, ht, hg⟩ := hr pins { s3 with heap := s3.heap.push { cls := .type "slice", data := .fields #[vl, vu, .none] } } σ H3 x v vl vu l u s3.heap.objs.size Q I4 r1 (Heap.IsSliceOf.new ..) pl pu q3
 show wpAny (model X.prog X.w) X.A (subscriptTail e (.Slice lo hi none p2) v (.ref s3.heap.objs.size)) (EP X pins σ Q) X.xe { s3 with heap := s3.heap.push { cls := .type "slice", data := .fields #[vl, vu, .none] } }
 exact tail_any (ops := [.ref s3.heap.objs.size, v]) ht hT hg (by with_unfolding_all rfl)
def cutV (xs : List V) (lo hi : Option Int) : List V := (xs.drop (HT.sIx xs.length 0 lo)).take (HT.sIx xs.length xs.length hi - HT.sIx xs.length 0 lo)
theorem cutV_length (xs : List V) (lo hi : Option Int) : (cutV xs lo hi).length ≤ xs.length := by
 unfold cutV
 rw [List.length_take, List.length_drop]
 omega
def rCatT (K : PySem.W.Frag) : R2 := fun x y H Q => ∃ a b xs ys, x = .ref a ∧ y = .ref b ∧ SqT K H a xs ∧ SqT K H b ys ∧ xs ≠ [] ∧ xs.length + ys.length ≤ sizeLine ∧
 (ys = [] → Q (.ref a) H) ∧ (ys ≠ [] → ∀ p, H p = none → Q (.ref p) (upd H p (.tup (xs ++ ys))))
theorem Vals.nil_iff {xs : List V} {us : List Value} (r : Vals xs us) : us = [] ↔ xs = [] := by
 cases r with
 | nil => simp
 | cons _ _ => simp
theorem op_catT : OpR X (binaryOp .Add) (rCatT X.K) := by
 intro pins s σ H x y v u Q I rx ry h
 obtain ⟨a, b, xs, ys, rfl, rfl, ha, hb, hx, hz, q1, q2⟩ := h
 cases rx
 cases ry
 obtain ⟨its, r1, p1, _⟩ := I.tuple ha
 obtain ⟨its2, r2, p2, _⟩ := I.tuple hb
 refine HT.cat_tup p1 p2 (fun z => hx (r1.nil_iff.mp z)) (fun z => ⟨.ref a, H, I, rfl, q1 (r2.nil_iff.mp z)⟩) (fun z => ?_) (by rw [← r1.length, ← r2.length]; exact hz)
 refine ⟨.ref s.heap.objs.size, _, I.laid (t' := s.toks) (o := .tup (xs ++ ys)) (fun b ob q => Heap.get?_push_of_some _ q) (Nat.le_refl _) ?_, rfl, q2 (fun w => z (r2.nil_iff.mpr w)) _ (I.hok.fresh (Nat.le_refl _))⟩
 exact ⟨by rw [List.length_append]; exact hz, _, r1.append r2, IsTup.new _ _⟩
end
end L2
namespace L2
open PySem PySem.Spec PyProof.Rows
def ixN (n : Nat) (i : Int) : Option Nat := if 0 ≤ i then (if i < n then some i.toNat else none) else if -(n : Int) ≤ i then some (i + n).toNat else none
def atI {α : Type} (xs : List α) (i : Int) : Option α := (ixN xs.length i).bind fun j => xs[j]?
theorem ixN_seq {n : Nat} {i : Int} {j : Nat} (h : ixN n i = some j) : seqIndex? i n = some j ∧ j < n ∧ -(n : Int) ≤ i ∧ i < n := by
 unfold ixN at h
 by_cases h0 : 0 ≤ i
 · rw [if_pos h0] at h
   by_cases h1 : i < n
   · rw [if_pos h1] at h
     have e : i.toNat = j := Option.some.inj h
     exact ⟨by rw [seqIndex_of h0 h1, e], by omega, by omega, h1⟩
   · rw [if_neg h1] at h; cases h
 · rw [if_neg h0] at h
   by_cases h1 : -(n : Int) ≤ i
   · rw [if_pos h1] at h
     have e : (i + n).toNat = j := Option.some.inj h
     exact ⟨by rw [seqIndex_neg (by omega) h1, e], by omega, h1, by omega⟩
   · rw [if_neg h1] at h; cases h
theorem atI_get {α : Type} {xs : List α} {i : Int} {v : α} (h : atI xs i = some v) : ∃ j, seqIndex? i xs.length = some j ∧ xs[j]? = some v ∧ j < xs.length ∧ -(xs.length : Int) ≤ i ∧ i < xs.length := by
 unfold atI at h
 cases e : ixN xs.length i with
 | none => rw [e] at h; cases h
 | some j =>
   rw [e] at h
   obtain ⟨h1, h2, h3, h4⟩ := ixN_seq e
   exact ⟨j, h1, h, h2, h3, h4⟩
def PlainIx (b : Expr) : Prop := ∀ o i, subscripted b false o i = operate [o, i] (getItem o i)
def IxR (X : Cx) (r : R2) : Prop :=
 ∀ (value slice : Expr) (pins : List (Addr × Obj)) (s : Shared) (σ : St) (H : Hp) (x y : V) (v u : Value) (Q : VK), Inv X pins σ H s → RelV x v → RelV y u → r x y H Q →
   subscripted slice false v u = operate [v, u] (getItem v u) → wpAny (model X.prog X.w) X.A (subscriptTail value slice v u) (EP X pins σ Q) X.xe s
def MtR (X : Cx) (id : String) (r : V → List V → Hp → VK → Prop) : Prop :=
 ∀ (pins : List (Addr × Obj)) (s : Shared) (σ : St) (H : Hp) (x : V) (xs : List V) (v : Value) (us : List Value) (Q : VK), Inv X pins σ H s → RelV x v → Vals xs us → r x xs H Q →
   wpAny (model X.prog X.w) X.A (call (.builtin id) (v :: us)) (EP X pins σ Q) X.xe s
section
variable {X : Cx} {a b : Expr} {ta tb : TE} {pos : Pos}
theorem IxR.or {r r' : R2} (h : IxR X r) (h' : IxR X r') : IxR X (fun x y H Q => r x y H Q ∨ r' x y H Q) := by
 intro value slice pins s σ H x y v u Q I rx ry q hs
 rcases q with q | q
 · exact h value slice pins s σ H x y v u Q I rx ry q hs
 · exact h' value slice pins s σ H x y v u Q I rx ry q hs
theorem pe_ix {r : R2} (hr : IxR X r) (ha : PE X a ta) (hb : PE X b tb) (hs : PlainIx b) : PE X (.Subscript a b pos) (tOp r ta tb) := by
 intro pins s σ H Q I h
 exact Subscript_ (binT ha hb I h fun v u s2 x y H2 I2 rx ry q => hr a b pins s2 σ H2 x y v u Q I2 rx ry q (hs _ _))
def rIxL (K : PySem.W.Frag) : R2 := fun x y H Q => ∃ p xs i v, x = .ref p ∧ y = .int i ∧ SqL K H p xs ∧ atI xs i = some v ∧ Q v H
def rIxT (K : PySem.W.Frag) : R2 := fun x y H Q => ∃ p xs i v, x = .ref p ∧ y = .int i ∧ SqT K H p xs ∧ atI xs i = some v ∧ Q v H
def rIxS : R2 := fun x y H Q => ∃ z i c, x = .str z ∧ y = .int i ∧ z.length ≤ sizeLine ∧ atI z.cps.toList i = some c ∧ Q (.str ⟨#[c]⟩) H
theorem ix_list : IxR X (rIxL X.K) := by
 intro value slice pins s σ H x y v u Q I rx ry h hs
 obtain ⟨p, xs, i, z, rfl, rfl, hq, he, q⟩ := h
 cases rx
 obtain ⟨t, rfl⟩ := ry
 obtain ⟨its, r, pl, hz⟩ := I.list hq
 obtain ⟨j, h1, h2, h3, h4, h5⟩ := atI_get he
 obtain ⟨w, ew, rw'⟩ := r.get h2
 have hl := r.length
 have hn := line63
 have fin : EP X pins σ Q w s := ⟨z, H, I, rw', q⟩
 by_cases h0 : 0 ≤ i
 · have hj : i.toNat = j := by
     rw [seqIndex_of h0 h5] at h1
     exact Option.some.inj h1
   exact item_listR pl.isList h0 (by omega) (by rw [hj]; simpa using ew) fin hs
 · have hj : (i + (its.toArray.size : Int)).toNat = j := by
     rw [seqIndex_neg (by omega) h4] at h1
     rw [List.size_toArray, ← hl]
     exact Option.some.inj h1
   exact subscriptTail_builtinR (x := w) pl.isList.typeIs slot_list_getitem.lookup
     (wpAny_getItem_list_neg (Q := fun r s' => r = w ∧ EP X pins σ Q r s') pl.isList (by omega) (by rw [List.size_toArray] <;> omega) (by omega) (by rw [hj]; simpa using ew) ⟨rfl, fin⟩) hs
theorem ix_tup : IxR X (rIxT X.K) := by
 intro value slice pins s σ H x y v u Q I rx ry h hs
 obtain ⟨p, xs, i, z, rfl, rfl, hq, he, q⟩ := h
 cases rx
 obtain ⟨t, rfl⟩ := ry
 obtain ⟨its, r, pl, hz⟩ := I.tuple hq
 obtain ⟨j, h1, h2, h3, h4, h5⟩ := atI_get he
 obtain ⟨w, ew, rw'⟩ := r.get h2
 have hl := r.length
 have hn := line63
 have fin : EP X pins σ Q w s := ⟨z, H, I, rw', q⟩
 exact subscriptTail_builtinR (x := w) pl.typeIs slot_tuple_getitem.lookup
   (getItem_tuple (j := j) (Q := fun r s' => r = w ∧ EP X pins σ Q r s') pl (by omega) (by omega) (by rw [List.size_toArray, ← hl]; exact h1) (by simpa using ew) ⟨rfl, fin⟩) hs
theorem ix_str : IxR X rIxS := by
 intro value slice pins s σ H x y v u Q I rx ry h hs
 obtain ⟨z, i, c, rfl, rfl, hz, he, q⟩ := h
 obtain ⟨t, rfl⟩ := rx
 obtain ⟨t', rfl⟩ := ry
 obtain ⟨j, h1, h2, h3, h4, h5⟩ := atI_get he
 have hl : z.cps.toList.length = z.length := by simp [Str.length]
 rw [hl] at h1 h4 h5
 have hn := line63
 exact tail_any (typeIs_str s z t) slot_str_getitem.lookup (getItem_str (c := c) (by
   have e1 : decide (i < -(2 ^ 63 : Int)) = false := decide_eq_false (by omega)
   have e2 : decide (i ≥ 2 ^ 63) = false := decide_eq_false (by omega)
   rw [e1, e2, Bool.or_false]) (by rw [h1]; simpa using h2) ⟨.str ⟨#[c]⟩, H, I.tok _, ⟨_, rfl⟩, q⟩) hs
def rIx (K : PySem.W.Frag) : R2 := fun x y H Q => rIxL K x y H Q ∨ rIxT K x y H Q ∨ rIxS x y H Q
theorem ix_seq : IxR X (rIx X.K) := ix_list.or (ix_tup.or ix_str)
theorem slice_bounds (lo hi : Option Int) (n : Nat) : (sliceBounds lo hi none n).1 = ((HT.sIx n 0 lo : Nat) : Int) ∧ (sliceBounds lo hi none n).2.1 = ((HT.sIx n n hi : Nat) : Int) ∧ (sliceBounds lo hi none n).2.2 = 1 := by
 refine ⟨?_, ?_, rfl⟩
 · cases lo with
   | none => simp [sliceBounds, HT.sIx]
   | some i =>
     simp only [sliceBounds, HT.sIx, Option.getD_none, show (1 : Int) > 0 by decide, if_true]
     by_cases h : i < 0
     · simp only [h, if_true] <;> omega
     · simp only [h, if_false] <;> omega
 · cases hi with
   | none => simp [sliceBounds, HT.sIx]
   | some i =>
     simp only [sliceBounds, HT.sIx, Option.getD_none, show (1 : Int) > 0 by decide, if_true]
     by_cases h : i < 0
     · simp only [h, if_true] <;> omega
     · simp only [h, if_false] <;> omega
theorem slicePick_cut (its : List Value) (lo hi : Option Int) : slicePick its.toArray lo hi none = ((its.drop (HT.sIx its.length 0 lo)).take (HT.sIx its.length its.length hi - HT.sIx its.length 0 lo)).toArray := by
 obtain ⟨h1, h2, h3⟩ := slice_bounds lo hi its.toArray.size
 unfold slicePick
 rw [h1, h2, h3]
 simp only [sliceRange_one, pick_run, List.size_toArray] <;> rfl
def rSlL (K : PySem.W.Frag) : V → Option Int → Option Int → Hp → VK → Prop := fun x lo hi H Q => ∃ a xs, x = .ref a ∧ SqL K H a xs ∧ ∀ p, H p = none → Q (.ref p) (upd H p (.lst (cutV xs lo hi)))
theorem sl_list : SlR X (rSlL X.K) := by
 intro pins s σ H x v vl vu lo hi sl Q I rx hs pl pu h
 obtain ⟨a, xs, rfl, hx, q⟩ := h
 cases rx
 obtain ⟨its, r, ht, hz⟩ := I.list hx
 have hlen := r.length
 refine ⟨"list", _, slot_list_getitem.lookup, ht.isList.typeIs, ?_⟩
 refine wpAny_getItem_list_slice ht.isList hs pl pu .none (by simp) ?_ (by rw [List.size_toArray] <;> omega)
 rw [slicePick_cut, ← hlen]
 refine ⟨.ref s.heap.objs.size, _, I.laid (t' := s.toks) (o := .lst (cutV xs lo hi)) (fun b ob q => Heap.get?_push_of_some _ q) (Nat.le_refl _) ?_, rfl, q _ (I.hok.fresh (Nat.le_refl _))⟩
 exact ⟨Nat.le_trans (cutV_length xs lo hi) hz, _, 0, (r.drop (HT.sIx xs.length 0 lo)).take (HT.sIx xs.length xs.length hi - HT.sIx xs.length 0 lo), Heap.get?_push_size _ rfl⟩
def tyV (K : PySem.W.Frag) (T : String) (x : V) (H : Hp) : Prop := match x with
 | .str _ => T = "str"
 | .int _ => T = "int"
 | .ref p => (T = "list" ∧ ∃ xs, SqL K H p xs) ∨ (T = "tuple" ∧ ∃ o, K.lookup p = some o ∧ o.cls = .type "tuple" ∧ o.dict = none) ∨
     (T = "dict" ∧ ((∃ kvs, H p = some (.dK kvs)) ∨ ∃ kvs, H p = some (.dT kvs))) ∨ (T = "set" ∧ ∃ S n, H p = some (.set S n))
 | _ => False
theorem tyV_is {pins : List (Addr × Obj)} {σ : St} {H : Hp} {s : Shared} {T : String} {x : V} {v : Value} (I : Inv X pins σ H s) (r : RelV x v) (ty : tyV X.K T x H) :
   s.TypeIs v T ∧ ∀ a, v = .ref a → ∃ ob, s.heap.get? a = some ob ∧ ob.dict = none := by
 cases x with
 | str z =>
   obtain ⟨t, rfl⟩ := r
   cases (show T = "str" from ty)
   exact ⟨typeIs_str s z t, fun _ e => nomatch e⟩
 | int i =>
   obtain ⟨t, rfl⟩ := r
   cases (show T = "int" from ty)
   exact ⟨typeIs_int s i t, fun _ e => nomatch e⟩
 | ref p =>
   cases r
   rcases ty with ⟨rfl, xs, hq⟩ | ⟨rfl, o, hk, hc, hd⟩ | ⟨rfl, hk⟩ | ⟨rfl, S, n, hk⟩
   · obtain ⟨its, _, pl, _⟩ := I.list hq
     refine ⟨pl.isList.typeIs, fun a e => ?_⟩
     cases e
     obtain ⟨o, n, e, c, hd, _⟩ := pl
     exact ⟨o, e, hd⟩
   · refine ⟨⟨o, I.kIn p o hk, hc⟩, fun a e => ?_⟩
     cases e
     exact ⟨o, I.kIn _ o hk, hd⟩
   · have z : ∃ o, s.heap.get? p = some o ∧ o.ExactDict := by
       rcases hk with ⟨kvs, hk⟩ | ⟨kvs, hk⟩
       · obtain ⟨_, _, _, _, o, _, _, e, ex, _⟩ := I.hok p _ hk
         exact ⟨o, e, ex⟩
       · obtain ⟨_, _, _, _, o, _, _, e, ex, _⟩ := I.hok p _ hk
         exact ⟨o, e, ex⟩
     obtain ⟨o, e, ex⟩ := z
     refine ⟨⟨o, e, ex.1⟩, fun a e2 => ?_⟩
     cases e2
     exact ⟨o, e, ex.2.1⟩
   · obtain ⟨o, _, _, _, e, ex, _⟩ := I.hok p _ hk
     refine ⟨⟨o, e, ex.1⟩, fun a e2 => ?_⟩
     cases e2
     exact ⟨o, e, ex.2.1⟩
 | _ => exact False.elim ty
def tBM0 (K : PySem.W.Frag) (T : String) (r : V → List V → Hp → VK → Prop) (to : TE) : TE := fun σ H Q => to σ H fun x H1 => tyV K T x H1 ∧ r x [] H1 Q
variable {o e : Expr} {es : List Expr} {to : TE} {t : TA} {name : Str} {apos cpos : Pos} {T id : String} {r : V → List V → Hp → VK → Prop}
theorem pe_bm0 (pa : PlainAttrs T) (slot : Slot T name id) (hty : typeOf (.builtin id) = pure (.type "method_descriptor")) (hm : MtR X id r) (ho : PE X o to)
   (hbase : attributeBase o name X.env (eval o X.env) = eval o X.env := by rfl) (hline : (apos.endLine == cpos.line) = true := by rfl) : PE X (.Call (.Attribute o name apos) [] [] cpos) (tBM0 X.K T r to) := by
 intro pins s σ H Q I h
 refine wpAny_Call_method0_late hbase hline (thn (ho pins s σ H _ I h) fun v s1 ⟨x, H1, I1, r1, ty, q1⟩ => ?_)
 obtain ⟨h1, h2⟩ := tyV_is I1 r1 ty
 exact ⟨T, id, pa, slot, hty, h1, h2, Calls.callWith_builtin rfl (PySem.evalArgs_none (hm pins s1 σ H1 x [] v [] Q I1 r1 .nil q1))⟩
/- xs.append(e), list.index on a module's tuple .. are MtR facts of 06m -/
end
end L2
namespace L2
open PySem PySem.Spec PyProof.Rows
def MtM (X : Cx) (id : String) (r : V → List V → Hp → VK → Prop) : Prop :=
 ∀ (pins : List (Addr × Obj)) (s : Shared) (σ : St) (H : Hp) (x : V) (xs : List V) (v : Value) (us : List Value) (Q : VK), Inv X pins σ H s → RelV x v → Vals xs us → r x xs H Q →
   wpAny (model X.prog X.w) X.A (call (.builtin id) (v :: us)) (EP X pins σ Q) X.xe s
theorem Vals.one : ∀ {x : V} {us : List Value}, Vals [x] us → ∃ u, us = [u] ∧ RelV x u
 | _, _, h => by
   cases h with
   | cons r t => cases t; exact ⟨_, rfl, r⟩
theorem Vals.zero : ∀ {us : List Value}, Vals [] us → us = []
 | _, .nil => rfl
theorem Vals.dropLast {xs : List V} {us : List Value} (h : Vals xs us) : Vals xs.dropLast us.dropLast := by
 induction h with
 | nil => exact .nil
 | cons r t ih =>
   cases t with
   | nil => exact .nil
   | cons q t' => exact .cons r ih
theorem Vals.reverse {xs : List V} {us : List Value} (h : Vals xs us) : Vals xs.reverse us.reverse := by
 induction h with
 | nil => exact .nil
 | cons r t ih => rw [List.reverse_cons, List.reverse_cons]; exact Vals.append ih (.cons r .nil)
theorem erase_last {α : Type} (l : List α) : l.eraseIdx (l.length - 1) = l.dropLast := by
 induction l with
 | nil => rfl
 | cons a r ih =>
   cases r with
   | nil => rfl
   | cons b r =>
     have e : (a :: b :: r).length - 1 = ((b :: r).length - 1) + 1 := by
       have h1 : (a :: b :: r).length = r.length + 2 := rfl
       have h2 : (b :: r).length = r.length + 1 := rfl
       omega
     rw [e, List.eraseIdx_cons_succ, ih]
     all_goals rfl
section
variable {X : Cx} {pins : List (Addr × Obj)} {σ : St} {H : Hp} {s : Shared} {l b : Addr} {xs ys zs : List V}
theorem Inv.lset {its its' : List Value} {n : Nat} {f : Array Value → Array Value} {t' : Nat} (I : Inv X pins σ H s) (hH : H l = some (.lst xs))
   (e : s.heap.get? l = some { cls := .type "list", data := .seq its.toArray n }) (hf : f its.toArray = its'.toArray) (hv : Vals ys its') (hz : ys.length ≤ sizeLine) :
   Inv X pins σ (upd H l (.lst ys)) { s with heap := s.heap.update l (Obj.mapSeq f), toks := t' } := by
 have q := PySem.IsL.update e f
 rw [hf] at q
 refine I.write (x := l) (e := l) (by rw [hH]; exact trivial) (.inl rfl) (fun b' u hb hu => (Heap.get?_update_other s.heap (Obj.mapSeq f) (Ne.symm hb)).trans hu) ⟨_, q⟩ ?_
 exact ⟨hz, its', _, hv, q⟩
theorem Inv.lnew {its : List Value} {t' : Nat} (I : Inv X pins σ H s) (hv : Vals ys its) (hz : ys.length ≤ sizeLine) :
   Inv X pins σ (upd H s.heap.objs.size (.lst ys)) { s with heap := s.heap.push { cls := .type "list", data := .seq its.toArray }, toks := t' } :=
 I.laid (fun _ _ q => Heap.get?_push_of_some _ q) (Nat.le_refl _) ⟨hz, its, 0, hv, Heap.get?_push_size _ rfl⟩
theorem Inv.fresh (I : Inv X pins σ H s) : H s.heap.objs.size = none := I.hok.fresh (Nat.le_refl _)
theorem Inv.lstM (I : Inv X pins σ H s) (hH : H l = some (.lst xs)) : xs.length ≤ sizeLine ∧ ∃ (its : List Value) (n : Nat), Vals xs its ∧ xs.length = its.length ∧ s.heap.get? l = some { cls := .type "list", data := .seq its.toArray n } := by
 obtain ⟨z, its, n, r, e⟩ := I.hok l _ hH
 exact ⟨z, its, n, r, r.length, e⟩
end
section
variable {X : Cx}
def rAppend : V → List V → Hp → VK → Prop := fun x vs H Q => ∃ l xs y, x = .ref l ∧ vs = [y] ∧ H l = some (.lst xs) ∧ xs.length < sizeLine ∧ Q .non (upd H l (.lst (xs ++ [y])))
theorem mt_append : MtM X "list.append" rAppend := by
 intro pins s σ H x vs v us Q I rx rv h
 obtain ⟨l, xs, y, rfl, rfl, hH, hz, q⟩ := h
 cases rx
 obtain ⟨u, rfl, ru⟩ := rv.one
 obtain ⟨z, its, n, r, hl, e⟩ := I.lstM hH
 refine call_meets F.slot_list_append ⟨_, e, rfl⟩ F.entry_list_append (F.args_list_append_2 _ _) (PySem.list_append l its.toArray n u (by rw [List.size_toArray]; omega)) ⟨e, ?_⟩
 refine ⟨.non, _, I.lset (its' := its ++ [u]) hH e (by simp) (r.append (.cons ru .nil)) ?_, rfl, q⟩
 rw [List.length_append, List.length_singleton]
 omega
def rPop : V → List V → Hp → VK → Prop := fun x vs H Q => ∃ l xs y, x = .ref l ∧ vs = [] ∧ H l = some (.lst xs) ∧ xs[xs.length - 1]? = some y ∧ Q y (upd H l (.lst xs.dropLast))
theorem mt_pop : MtM X "list.pop" rPop := by
 intro pins s σ H x vs v us Q I rx rv h
 obtain ⟨l, xs, y, rfl, rfl, hH, hy, q⟩ := h
 cases rx
 have hus := rv.zero
 subst hus
 obtain ⟨z, its, n, r, hl, e⟩ := I.lstM hH
 obtain ⟨u, hu, ru⟩ := r.get hy
 have hy' : its.toArray[its.toArray.size - 1]? = some u := by
   show its.toArray[its.length - 1]? = some u
   rw [← Array.getElem?_toList, ← hl]
   exact hu
 refine call_meets F.slot_list_pop ⟨_, e, rfl⟩ F.entry_list_pop (F.args_list_pop_1 _) (MeetsSeq.list_pop_last l its.toArray n u hy' (by rw [List.size_toArray]; omega)) ⟨e, ?_⟩
 refine ⟨y, _, I.lset (its' := its.dropLast) hH e ?_ r.dropLast ?_, ru, q⟩
 · show its.toArray.eraseIdxIfInBounds (its.toArray.size - 1) = its.dropLast.toArray
   rw [List.size_toArray, List.eraseIdxIfInBounds_toArray, erase_last]
 · rw [List.length_dropLast]
   omega
def rCat : R2 := fun x y H Q => ∃ l b xs zs, x = .ref l ∧ y = .ref b ∧ H l = some (.lst xs) ∧ H b = some (.lst zs) ∧ xs.length + zs.length ≤ sizeLine ∧ ∀ p, H p = none → Q (.ref p) (upd H p (.lst (xs ++ zs)))
theorem op_cat : OpR X (binaryOp .Add) rCat := by
 intro pins s σ H x y v u Q I rx ry h
 obtain ⟨l, b, xs, zs, rfl, rfl, hH, hB, hz, q⟩ := h
 cases rx
 cases ry
 obtain ⟨z, its, n, r, hl, e⟩ := I.lstM hH
 obtain ⟨z2, its2, n2, r2, hl2, e2⟩ := I.lstM hB
 refine PySem.P.add_list e e2 ?_ (by rw [List.size_toArray, List.size_toArray]; omega)
 have ea : its.toArray ++ its2.toArray = (its ++ its2).toArray := by simp
 rw [ea]
 exact ⟨.ref _, _, I.lnew (t' := s.toks) (r.append r2) (by rw [List.length_append]; omega), rfl, q _ I.fresh⟩
end
end L2
namespace L2
open PySem PySem.Spec PyProof.Rows
section
variable {κ : Type} [DecidableEq κ]
def valV (kvs : List (κ × V)) (k : κ) : Option V := (kvs.find? fun kv => decide (kv.1 = k)).map (·.2)
def putK (kvs : List (κ × V)) (k : κ) (v : V) : List (κ × V) :=
 if (kvs.any fun kv => decide (kv.1 = k)) = true then kvs.map (fun kv => if kv.1 = k then (kv.1, v) else kv) else kvs ++ [(k, v)]
theorem valV_pos {p : κ × V} {r : List (κ × V)} {k : κ} (e : p.1 = k) : valV (p :: r) k = some p.2 := by simp [valV, List.find?_cons, e]
theorem valV_neg {p : κ × V} {r : List (κ × V)} {k : κ} (e : ¬ p.1 = k) : valV (p :: r) k = valV r k := by simp [valV, List.find?_cons, e]
theorem valV_any (k : κ) : ∀ kvs : List (κ × V), (kvs.any fun kv => decide (kv.1 = k)) = (valV kvs k).isSome
 | [] => rfl
 | p :: r => by
   rw [List.any_cons]
   by_cases e : p.1 = k
   · simp only [valV_pos e, decide_eq_true e, Bool.true_or, Option.isSome_some]
   · rw [valV_neg e, decide_eq_false e, Bool.false_or]; exact valV_any k r
theorem length_putK (kvs : List (κ × V)) (k : κ) (v : V) : (putK kvs k v).length ≤ kvs.length + 1 := by
 unfold putK
 split
 · rw [List.length_map]; omega
 · rw [List.length_append, List.length_cons, List.length_nil]; omega
theorem RelO.isSome_eq {o : Option V} {u : Option Value} (r : RelO o u) : o.isSome = u.isSome := by
 cases o with
 | none => cases u with
   | none => rfl
   | some _ => exact (show False from r).elim
 | some _ => cases u with
   | none => exact (show False from r).elim
   | some _ => rfl
theorem KV.val {kvs : List (κ × V)} {vs : List (κ × Value)} (r : KV kvs vs) (k : κ) : RelO (valV kvs k) (valueAt vs k) := by
 unfold KV at r
 induction r with
 | nil => exact True.intro
 | @cons p q ps qs h t ih =>
   obtain ⟨h1, h2⟩ := h
   by_cases e : p.1 = k
   · have e' : q.1 = k := h1.symm.trans e
     have b : valueAt (q :: qs) k = some q.2 := by simp [valueAt, List.find?_cons, e']
     rw [valV_pos e, b]; exact h2
   · have e' : ¬ q.1 = k := fun z => e (h1.trans z)
     have b : valueAt (q :: qs) k = valueAt qs k := by simp [valueAt, List.find?_cons, e']
     rw [valV_neg e, b]; exact ih
theorem KV.any {kvs : List (κ × V)} {vs : List (κ × Value)} (r : KV kvs vs) (k : κ) : (kvs.any fun kv => decide (kv.1 = k)) = vs.any fun kv => decide (kv.1 = k) := by
 unfold KV at r
 induction r with
 | nil => rfl
 | cons h t ih => rw [List.any_cons, List.any_cons, ih, h.1]
theorem KV.repl {kvs : List (κ × V)} {vs : List (κ × Value)} (r : KV kvs vs) (k : κ) {y : V} {u : Value} (ry : RelV y u) :
   KV (kvs.map fun kv => if kv.1 = k then (kv.1, y) else kv) (vs.map fun kv => if kv.1 = k then (kv.1, u) else kv) := by
 unfold KV at r ⊢
 induction r with
 | nil => exact .nil
 | @cons p q ps qs h t ih =>
   rw [List.map_cons, List.map_cons]
   refine .cons ?_ ih
   obtain ⟨h1, h2⟩ := h
   by_cases e : p.1 = k
   · rw [if_pos e, if_pos (h1.symm.trans e)]; exact ⟨h1, ry⟩
   · rw [if_neg e, if_neg (fun z => e (h1.trans z))]; exact ⟨h1, h2⟩
theorem KV.put {kvs : List (κ × V)} {vs : List (κ × Value)} (r : KV kvs vs) (k : κ) {y : V} {u : Value} (ry : RelV y u) : KV (putK kvs k y) (stored vs k u) := by
 unfold putK stored
 rw [r.any k]
 by_cases e : (vs.any fun kv => decide (kv.1 = k)) = true
 · rw [if_pos e, if_pos e]; exact r.repl k ry
 · rw [if_neg e, if_neg e]; exact Paired.snoc r ⟨rfl, ry⟩
theorem KV.length {kvs : List (κ × V)} {vs : List (κ × Value)} (r : KV kvs vs) : kvs.length = vs.length := Paired.length r
end
theorem kV_is {P : Program} {w : World} {k : Key} {u : Value} (r : RelV (kV k) u) : (mixKind P w).is k u = true := by
 cases k with
 | inl i => obtain ⟨t, e⟩ := (show ∃ t, u = Value.int i t from r); subst e; exact mixKind_int P w i t
 | inr x => obtain ⟨t, e⟩ := (show ∃ t, u = Value.str x t from r); subst e; exact mixKind_str P w x t
theorem items_are {P : Program} {w : World} : ∀ {ks : List Key} {us : List Value}, Vals (ks.map kV) us → ItemsAre (mixKind P w) ks us
 | [], _, r => by rw [List.map_nil] at r; cases r; exact .nil
 | k :: ks, _, r => by
   rw [List.map_cons] at r
   cases r with
   | cons h t => exact .cons (kV_is h) (items_are t)
abbrev KT (H : Hp) : List (List Key × V) → List (List Key × Addr × Value) → Prop := Paired fun p q => p.1 = q.1 ∧ H q.2.1 = some (.tup (p.1.map kV)) ∧ RelV p.2 q.2.2
theorem KT.val {H : Hp} {kvs : List (List Key × V)} {xs : List (List Key × Addr × Value)} (r : KT H kvs xs) (k : List Key) : RelO (valV kvs k) ((atKey xs k).map (·.2)) := by
 induction r with
 | nil => exact True.intro
 | @cons p q ps qs h t ih =>
   obtain ⟨h1, _, h2⟩ := h
   by_cases e : p.1 = k
   · have e' : q.1 = k := h1.symm.trans e
     have b : atKey (q :: qs) k = some q.2 := by simp [atKey, List.find?_cons, e']
     rw [valV_pos e, b]; exact h2
   · have e' : ¬ q.1 = k := fun z => e (h1.trans z)
     have b : atKey (q :: qs) k = atKey qs k := by simp [atKey, List.find?_cons, e']
     rw [valV_neg e, b]; exact ih
theorem KT.repl {H : Hp} {kvs : List (List Key × V)} {xs : List (List Key × Addr × Value)} (r : KT H kvs xs) (k : List Key) {y : V} {u : Value} (ry : RelV y u) :
   KT H (kvs.map fun kv => if kv.1 = k then (kv.1, y) else kv) (xs.map (putAt k u)) := by
 induction r with
 | nil => exact .nil
 | @cons p q ps qs h t ih =>
   rw [List.map_cons, List.map_cons]
   refine .cons ?_ ih
   obtain ⟨h1, h2, h3⟩ := h
   unfold putAt
   by_cases e : p.1 = k
   · rw [if_pos e, if_pos (h1.symm.trans e)]; exact ⟨h1, h2, ry⟩
   · rw [if_neg e, if_neg (fun z => e (h1.trans z))]; exact ⟨h1, h2, h3⟩
theorem KT.put {H : Hp} {kvs : List (List Key × V)} {xs : List (List Key × Addr × Value)} (r : KT H kvs xs) (k : List Key) {b : Addr} {y : V} {u : Value} (hb : H b = some (.tup (k.map kV))) (ry : RelV y u) :
   KT H (putK kvs k y) (storedH xs k b u) := by
 have e : (kvs.any fun kv => decide (kv.1 = k)) = (atKey xs k).isSome := by
   rw [valV_any, (r.val k).isSome_eq, Option.isSome_map]
 unfold putK storedH
 rw [e]
 by_cases q : (atKey xs k).isSome = true
 · rw [if_pos q, if_pos q]; exact r.repl k ry
 · rw [if_neg q, if_neg q]; exact Paired.snoc r ⟨rfl, hb, ry⟩
theorem KT.keeps {H H' : Hp} {kvs : List (List Key × V)} {xs : List (List Key × Addr × Value)} (r : KT H kvs xs) (ht : ∀ b ys, H b = some (.tup ys) → H' b = some (.tup ys)) : KT H' kvs xs :=
 Paired.mapP r fun _ _ z => ⟨z.1, ht _ _ z.2.1, z.2.2⟩
section
variable {P : Program} {w : World} {H : Hp} {h : Heap} {a : Addr}
theorem rd_of {u : HO} (ok : HOk P w H h) (e : Rd H a u) : ObjOk P w H h a u := e.ok ok
theorem dk_rd {kvs : List (Key × V)} (ok : HOk P w H h) (e : Rd H a (.dK kvs)) : kvs.length ≤ sizeLine ∧ (a == sysModules) = false ∧ ∃ vs, KV kvs vs ∧ h.DictOf (mixKind P w) a vs :=
 show ObjOk P w H h a (.dK kvs) from rd_of ok e
theorem dk_of {kvs : List (Key × V)} (ok : HOk P w H h) (e : H a = some (.dK kvs)) : kvs.length ≤ sizeLine ∧ (a == sysModules) = false ∧ ∃ vs, KV kvs vs ∧ h.DictOf (mixKind P w) a vs := dk_rd ok (.inl e)
theorem key_of {ks : List Key} (ok : HOk P w H h) (e : H a = some (.tup (ks.map kV))) : (tupleKind (mixKind P w)).is h ks a := by
 obtain ⟨_, its, r, o, h1, h2, n, h3⟩ := (show ObjOk P w H h a (.tup (ks.map kV)) from ok a _ e)
 exact ⟨o, its.toArray, n, h1, h2, h3, by simpa using items_are r⟩
theorem dt_rd {kvs : List (List Key × V)} (ok : HOk P w H h) (e : Rd H a (.dT kvs)) : kvs.length ≤ sizeLine ∧ (a == sysModules) = false ∧
   ∃ xs, KT H kvs xs ∧ h.DictOfH (tupleKind (mixKind P w)) a xs := by
 obtain ⟨z, y, xs, r, o, es, ep, h1, h2, h3, h4, h5⟩ := (show ObjOk P w H h a (.dT kvs) from rd_of ok e)
 refine ⟨z, y, xs, r, o, es, ep, h1, h2, h3, h4, fun x hx => ?_, h5⟩
 have all : ∀ {l : List (List Key × V)} {m : List (List Key × Addr × Value)}, KT H l m → ∀ x ∈ m, (tupleKind (mixKind P w)).is h x.1 x.2.1 := by
   intro l m q
   induction q with
   | nil => intro x hx; exact nomatch hx
   | @cons p q ps qs hq t ih =>
     intro x hx
     rcases List.mem_cons.mp hx with e | hx
     · subst e
       exact key_of ok (by rw [← hq.1]; exact hq.2.1)
     · exact ih x hx
 exact all r x hx
theorem dt_of {kvs : List (List Key × V)} (ok : HOk P w H h) (e : H a = some (.dT kvs)) : kvs.length ≤ sizeLine ∧ (a == sysModules) = false ∧
   ∃ xs, KT H kvs xs ∧ h.DictOfH (tupleKind (mixKind P w)) a xs := dt_rd ok (.inl e)
end
def DGet (H : Hp) (a : Addr) (y : V) (r : Option V) : Prop :=
 (∃ kvs k, Rd H a (.dK kvs) ∧ y = kV k ∧ r = valV kvs k) ∨ ∃ kvs k b, Rd H a (.dT kvs) ∧ y = .ref b ∧ H b = some (.tup (k.map kV)) ∧ r = valV kvs k
def DPut (H : Hp) (a : Addr) (y v : V) (H' : Hp) : Prop :=
 (∃ kvs k, H a = some (.dK kvs) ∧ y = kV k ∧ kvs.length < sizeLine ∧ H' = upd H a (.dK (putK kvs k v))) ∨
 ∃ kvs k b, H a = some (.dT kvs) ∧ y = .ref b ∧ H b = some (.tup (k.map kV)) ∧ kvs.length < sizeLine ∧ H' = upd H a (.dT (putK kvs k v))
section
variable {X : Cx} {pins : List (Addr × Obj)} {σ : St} {H : Hp} {s : Shared} {a : Addr} {y v : V} {u r : Value} {o : Option V} {A : Around} {E : Value → Shared → Prop}
theorem Inv.big (I : Inv X pins σ H s) : sysModules < s.heap.objs.size := by
 have h : mainGlobals < s.heap.objs.size := (I.mod.glob.keeps I.bk).lt
 exact Nat.lt_trans (by decide) h
theorem d_getItem {Q : Value → Shared → Prop} (hu : A.units + 1 < cLine) (I : Inv X pins σ H s) (g : DGet H a y (some v)) (ry : RelV y u) (h : ∀ w' s', Inv X pins σ H s' → RelV v w' → Q w' s') :
   wpAny (model X.prog X.w) A (getItem (.ref a) u) Q E s := by
 rcases g with ⟨kvs, k, e, ey, l⟩ | ⟨kvs, k, b, e, ey, eb, l⟩
 · subst ey
   obtain ⟨z, hd, vs, rel, dd⟩ := dk_rd I.hok e
   obtain ⟨w', hw, rw'⟩ := RelO.some_of (v := v) (o := valueAt vs k) (by rw [l]; exact rel.val k)
   exact wpAny_getItem_of (kV_is ry) dd.mapOf hw (h w' _ (I.tok _) rw')
 · subst ey
   cases (show u = Value.ref b from ry)
   obtain ⟨z, hd, xs, rel, dd⟩ := dt_rd I.hok e
   obtain ⟨w', hw, rw'⟩ := RelO.some_of (v := v) (o := (atKey xs k).map (·.2)) (by rw [l]; exact rel.val k)
   obtain ⟨p, hp, hp2⟩ := Option.map_eq_some_iff.mp hw
   refine wpAny_getItem_heap (tupleKind_room_in1 hu) (key_of I.hok eb) dd hp ?_
   rw [hp2]
   exact h w' _ (I.tok _) rw'
theorem d_write {h' : Heap} {t' : Nat} {ob : HO} (I : Inv X pins σ H s) (mu : Mut (H a)) (hs : Heap.SameBut a s.heap h') (he : ∃ q, h'.get? a = some q) (new : ObjOk X.prog X.w (upd H a ob) h' a ob) :
   Inv X pins σ (upd H a ob) { s with heap := h', toks := t' } :=
 I.write (x := a) (e := a) mu (.inl rfl) (fun b q hb z => (hs.2 b hb).trans z) he new
theorem dk_new {P : Program} {w : World} {H' : Hp} {h' : Heap} {kvs : List (Key × V)} {vs : List (Key × Value)} (z : kvs.length ≤ sizeLine) (hd : (a == sysModules) = false) (rel : KV kvs vs) (dd : h'.DictOf (mixKind P w) a vs) :
   ObjOk P w H' h' a (.dK kvs) := ⟨z, hd, vs, rel, dd⟩
theorem d_setItem {H' : Hp} {Q : Unit → Shared → Prop} (hu : A.units + 1 < cLine) (I : Inv X pins σ H s) (g : DPut H a y v H') (ry : RelV y u) (rv : RelV v r) (h : ∀ s', Inv X pins σ H' s' → Q () s') :
   wpAny (model X.prog X.w) A (setItem (.ref a) u r) Q E s := by
 rcases g with ⟨kvs, k, e, ey, l, eH⟩ | ⟨kvs, k, b, e, ey, eb, l, eH⟩
 · subst ey eH
   obtain ⟨z, hd, vs, rel, dd⟩ := dk_of I.hok e
   have hz : vs.length ≤ sizeLine := by rw [← rel.length]; exact z
   have hl : (putK kvs k v).length ≤ sizeLine := by have := length_putK kvs k v; omega
   refine wpAny_setItem_pairs (hsz := hz) (kV_is ry) dd fun h' dd' hs => h _ ?_
   have he : ∃ q, h'.get? a = some q := let ⟨q, _, _, hq, _⟩ := dd'; ⟨q, hq⟩
   exact d_write I (by rw [e]; exact True.intro) hs he (dk_new hl hd (rel.put k rv) dd')
 · subst ey eH
   cases (show u = Value.ref b from ry)
   obtain ⟨z, hd, xs, rel, dd⟩ := dt_of I.hok e
   have hz : xs.length ≤ sizeLine := by rw [← Paired.length rel]; exact z
   have hl : (putK kvs k v).length ≤ sizeLine := by have := length_putK kvs k v; omega
   refine wpAny_setItem_heap (hsz := hz) (tupleKind_room_in1 hu) (key_of I.hok eb) dd fun h' dd' hs => h _ ?_
   obtain ⟨q, es, ep, hq, h2, h3, h4, _, h5⟩ := dd'
   refine d_write I (by rw [e]; exact True.intro) hs ⟨q, hq⟩ ⟨hl, hd, _, (rel.put k eb rv).keeps fun c ys ec => ?_, q, es, ep, hq, h2, h3, h4, h5⟩
   rw [upd_ne (ne_of ec e (fun z => nomatch z))]
   exact ec
end
def NoSl (i : Expr) : Prop := ∀ ov iv, subscripted i false ov iv = operate [ov, iv] (getItem ov iv)
theorem subD_of {prog : Program} {w : World} {A : Around} {E : Value → Shared → Prop} {s : Shared} {env : Env} {value slice : Expr} {pos : Pos} {T id : String} {Q : Value → Shared → Prop}
   (hl : typeLookup (.type T) "__getitem__" = pure (some (.builtin id))) (hs : NoSl slice)
   (h : wpAny (model prog w) A (eval value env) (fun o s₁ => wpAny (model prog w) A (eval slice env) (fun i s₂ => s₂.TypeIs o T ∧ wpAny (model prog w) A (getItem o i) Q E s₂) E s₁) E s) :
   wpAny (model prog w) A (eval (.Subscript value slice pos) env) Q E s := by
 refine Subscript_ (wpAny_mono h (fun o s₁ h₁ => wpAny_mono h₁ (fun i s₂ h₂ => ?_) fun _ _ x => x) fun _ _ x => x)
 obtain ⟨hT, h₂⟩ := h₂
 unfold subscriptTail
 refine wpAny_bind ?_
 rw [getitemInPython_of_ne hT.not_modules]
 refine wpAny_bind (wpAny_specialOf hT hl ?_)
 have fin : wpAny (model prog w) A (subscripted slice false o i) (fun r s₃ => wpAny (model prog w) A (letTemporaryGo value o r >>= fun _ => pure r) Q E s₃) E s₂ := by
   rw [hs o i]
   exact wpAny_operating (wpAny_mono h₂ (fun r s₃ h₃ => wpAny_bind (wpAny_letTemporaryGo (wpAny_pure h₃))) fun _ _ x => x)
 first
   | exact wpAny_pure (wpAny_bind fin)
   | exact wpAny_bind (wpAny_pure (wpAny_bind fin))
   | exact wpAny_bind fin
theorem dict_typeIs {X : Cx} {pins : List (Addr × Obj)} {σ : St} {H : Hp} {s : Shared} {a : Addr} {y : V} {o : Option V} (I : Inv X pins σ H s) (g : DGet H a y o) : s.TypeIs (.ref a) "dict" := by
 rcases g with ⟨kvs, k, e, _, _⟩ | ⟨kvs, k, b, e, _, _, _⟩
 · obtain ⟨_, _, vs, _, dd⟩ := dk_rd I.hok e
   exact dd.typeIs
 · obtain ⟨_, _, xs, _, dd⟩ := dt_rd I.hok e
   exact dd.typeIs
def tDGet (td ty : TE) : TE := fun σ H Q => td σ H fun x H1 => ty σ H1 fun y H2 => ∃ a v, x = .ref a ∧ DGet H2 a y (some v) ∧ Q v H2
def sDPut (td ty tv : TE) : TS := fun D σ H => tv σ H fun v H1 => td σ H1 fun x H2 => ty σ H2 fun y H3 => ∃ a H4, x = .ref a ∧ DPut H3 a y v H4 ∧ D.nx σ H4
section
variable {X : Cx} {o i e value : Expr} {pos pos' tpos : Pos} {td ty tv : TE}
theorem pe_dget (hu : X.A.units + 1 < cLine) (ho : PE X o td) (hi : PE X i ty) (hs : NoSl i) : PE X (.Subscript o i pos) (tDGet td ty) := by
 intro pins s σ H Q I h
 refine subD_of PySem.F.slot_dict_getitem.lookup hs (thn (ho pins s σ H _ I h) fun u s1 ⟨x, H1, I1, rx, q1⟩ => thn (hi pins s1 σ H1 _ I1 q1) fun iv s2 ⟨y, H2, I2, ry, a, v, ex, g, q2⟩ => ?_)
 subst ex
 obtain rfl : u = Value.ref a := rx
 exact ⟨dict_typeIs I2 g, d_getItem hu I2 g ry fun w' s3 I3 rw' => ⟨v, H2, I3, rw', q2⟩⟩
theorem ps_dput (hu : X.A.units + 1 < cLine) (ho : PE X o td) (hi : PE X i ty) (hv : PE X value tv) (hs : swapsWith value (some (.Subscript o i pos')) pos.line X.env = pure false) :
   PS X (.Assign [.Subscript o i pos'] value pos) (sDPut td ty tv) := by
 intro pins s σ H D I h
 refine wpAny_Assign_Subscript (thn (hv pins s σ H _ I h) fun r s1 ⟨v, H1, I1, rv, q1⟩ => thn (ho pins s1 σ H1 _ I1 q1) fun u s2 ⟨x, H2, I2, rx, q2⟩ => thn (hi pins s2 σ H2 _ I2 q2) fun iv s3 ⟨y, H3, I3, ry, a, H4, ex, g, q3⟩ => ?_) hs
 subst ex
 obtain rfl : u = Value.ref a := rx
 exact d_setItem hu I3 g ry rv fun s4 I4 => ⟨σ, H4, I4, q3⟩
end
theorem dk_empty {P : Program} {w : World} {H : Hp} (h : Heap) (hb : sysModules < h.objs.size) : ObjOk P w H (h.push { cls := .type "dict", data := .dict #[] }) h.objs.size (.dK []) :=
 ⟨Nat.zero_le _, beq_eq_false_iff_ne.mpr (Ne.symm (Nat.ne_of_lt hb)), [], .nil, Heap.DictOf.new h⟩
def tPairs : List (TE × TE) → St → Hp → (List (V × V) → Hp → Prop) → Prop
 | [], _, H, Q => Q [] H
 | (tk, tv) :: r, σ, H, Q => tk σ H fun x H1 => tv σ H1 fun y H2 => tPairs r σ H2 fun ps H3 => Q ((x, y) :: ps) H3
abbrev VV : List (V × V) → List (Value × Value) → Prop := Paired fun p q => RelV p.1 q.1 ∧ RelV p.2 q.2
def PPs (X : Cx) (pos : Pos) (keys : List (Option Expr)) (values : List Expr) (trs : List (TE × TE)) : Prop :=
 ∀ (pins : List (Addr × Obj)) (s : Shared) (σ : St) (H : Hp) (Q : List (V × V) → Hp → Prop), Inv X pins σ H s → tPairs trs σ H Q →
   wpAny (model X.prog X.w) X.A (evalPairs (pairTrees keys values X.env pos)) (fun vs s' => ∃ ps H', Inv X pins σ H' s' ∧ VV ps vs ∧ Q ps H') X.xe s
theorem pps_nil {X : Cx} {pos : Pos} : PPs X pos [] [] [] := fun pins s σ H Q I h => pairTrees_nil_walk ⟨[], H, I, .nil, h⟩
theorem pps_cons {X : Cx} {pos : Pos} {k v : Expr} {ks : List (Option Expr)} {vs : List Expr} {tk tv : TE} {trs : List (TE × TE)} (hk : PE X k tk) (hv : PE X v tv) (hr : PPs X pos ks vs trs) :
   PPs X pos (some k :: ks) (v :: vs) ((tk, tv) :: trs) := fun pins s σ H Q I h =>
 pairTrees_cons_walk (thn (hk pins s σ H _ I h) fun u s1 ⟨x, H1, I1, rx, q1⟩ => thn (hv pins s1 σ H1 _ I1 q1) fun w2 s2 ⟨y, H2, I2, ry, q2⟩ =>
   thn (hr pins s2 σ H2 _ I2 q2) fun ws s3 ⟨ps, H3, I3, rel, q3⟩ => ⟨(x, y) :: ps, H3, I3, .cons ⟨rx, ry⟩ rel, q3⟩)
def mergeK (kvs more : List (Key × V)) : List (Key × V) := more.foldl (fun acc kv => putK acc kv.1 kv.2) kvs
theorem KV.merge : ∀ {more : List (Key × V)} {rs : List (Key × Value)} {kvs : List (Key × V)} {vs : List (Key × Value)}, KV more rs → KV kvs vs → KV (mergeK kvs more) (merged vs rs) := by
 intro more rs kvs vs r
 unfold KV at r
 induction r generalizing kvs vs with
 | nil => intro q; exact q
 | @cons p q ps qs h t ih =>
   intro r0
   have e : KV (putK kvs p.1 p.2) (stored vs q.1 q.2) := by
     have := r0.put p.1 h.2
     rw [← h.1]; exact this
   exact ih e
theorem length_mergeK : ∀ (more kvs : List (Key × V)), (mergeK kvs more).length ≤ kvs.length + more.length
 | [], kvs => by show kvs.length ≤ kvs.length + 0; omega
 | p :: r, kvs => by
   have h1 := length_mergeK r (putK kvs p.1 p.2)
   have h2 := length_putK kvs p.1 p.2
   show (mergeK (putK kvs p.1 p.2) r).length ≤ _
   rw [List.length_cons]; omega
theorem carries_of {P : Program} {w : World} : ∀ {kvs : List (Key × V)} {ws : List (Value × Value)}, VV (kvs.map fun kv => (kV kv.1, kv.2)) ws → ∃ rs, Carries (mixKind P w) ws rs ∧ KV kvs rs
 | [], _, r => by rw [List.map_nil] at r; cases r; exact ⟨[], True.intro, .nil⟩
 | p :: kvs, _, r => by
   rw [List.map_cons] at r
   cases r with
   | @cons a b as bs h t =>
     obtain ⟨rs, c, q⟩ := carries_of (P := P) (w := w) t
     obtain ⟨b1, b2⟩ := b
     exact ⟨(p.1, b2) :: rs, ⟨kV_is h.1, rfl, c⟩, .cons ⟨rfl, h.2⟩ q⟩
def tDisp (trs : List (TE × TE)) : TE := fun σ H Q => ∀ p, H p = none → tPairs trs σ (upd H p (.dK [])) fun ps H2 => H2 p = some (.dK []) ∧ ∃ kvs : List (Key × V), ps = kvs.map (fun kv => (kV kv.1, kv.2)) ∧ kvs.length ≤ 15 ∧ Q (.ref p) (upd H2 p (.dK (mergeK [] kvs)))
theorem pe_disp {X : Cx} {pos : Pos} {keys : List (Option Expr)} {values : List Expr} {trs : List (TE × TE)} (h : PPs X pos keys values trs) (hall : keys.all (·.isSome) = true) (hl : keys.length = values.length) (h0 : keys ≠ [])
   (h15 : keys.length ≤ 15) : PE X (.Dict keys values pos) (tDisp trs) := by
 intro pins s σ H Q I q
 have hn := I.hok.fresh (Nat.le_refl s.heap.objs.size)
 have I1 := I.laid (a := s.heap.objs.size) (o := .dK []) (h' := s.heap.push { cls := .type "dict", data := .dict #[] }) (t' := s.toks) (fun _ _ q => Heap.get?_push_of_some _ q) (Nat.le_refl _) (dk_empty s.heap I.big)
 refine wpAny_Dict_walk (knd := mixKind X.prog X.w) hall hl h0 h15 (thn (h pins _ σ _ _ I1 (q _ hn)) fun ws s2 ⟨ps, H2, I2, rel, e, kvs, ep, lk, q2⟩ => ?_)
 subst ep
 obtain ⟨rs, c, rk⟩ := carries_of (P := X.prog) (w := X.w) rel
 obtain ⟨z, hd, vs0, r0, dd⟩ := dk_of I2.hok e
 cases r0
 refine ⟨rs, c, dd, fun h' dd' hs => ⟨.ref s.heap.objs.size, _, ?_, rfl, q2⟩⟩
 have hz : (mergeK [] kvs).length ≤ sizeLine := by
   have h1 := length_mergeK kvs []
   rw [List.length_nil] at h1
   rw [sizeLine_eq]; omega
 have he : ∃ q, h'.get? s.heap.objs.size = some q := let ⟨q, _, _, hq, _⟩ := dd'; ⟨q, hq⟩
 exact d_write I2 (by rw [e]; exact True.intro) hs he (dk_new hz hd (rk.merge .nil) dd')
end L2
namespace Att
open PySem PySem.W PySem.Calls PyProof.Rows
theorem ints_of_wellAll {P : Params} {h : Heap} : ∀ (ns : List Int) (vs : List Value), WellAll P h vs (ns.map WData.int) → IntsAre vs ns := by
 intro ns
 induction ns with
 | nil =>
   intro vs w
   rw [List.map_nil] at w
   cases w
   exact .nil
 | cons n ns ih =>
   intro vs w
   rw [List.map_cons] at w
   cases w with
   | cons a b =>
     cases a
     exact .cons _ _ (ih _ b)
theorem script_of {l : OpenLaw} {n : Nat} (hn : l.most = some n) {P : Params} {h : Heap} {args : List WData} {vals : List Value}
   (hpre : l.row.toRowW.claim.pre args = true) (hwl : WellAll P h vals args) :
   ∃ a vs ns, vals = [Value.ref a] ∧ args = [WData.list (ns.map WData.int)] ∧ h.get? a = some { cls := .type "list", data := .seq vs.toArray } ∧ IntsAre vs ns ∧ ns.length ≤ n := by
 have hsh : WShape.hasAll [] args [.list .int] = true := (pre_splitW hpre).1
 have hc : l.pre.holds [] { args := args } = true := (pre_splitW hpre).2
 obtain ⟨d, r, rfl, h1, h2⟩ := hasAllW_cons hsh
 obtain rfl := hasAllW_nil h2
 obtain ⟨xs, rfl, h3⟩ := hasW_list h1
 obtain ⟨ns, rfl⟩ := items_int h3
 have hlen : ns.length ≤ n := by
   unfold OpenLaw.pre at hc
   have h4 : (WTm.not (.lt (.lit (.int (n : Int))) (.len (.arg 0)))).holds [] { args := [.list (ns.map .int)] } = true := by
     have h4 := (holds_andW hc).1
     rw [hn] at h4
     exact h4
   have h5 := condW_of h4 (w_not (w_lt w_lit (w_len_list (w_arg rfl))))
   rw [List.length_map] at h5
   refine Nat.le_of_not_lt fun q => ?_
   have q' : (n : Int) < ((ns.length : Nat) : Int) := by omega
   first
     | (rw [decide_eq_true q'] at h5; exact absurd h5 (by decide))
     | (simp at h5; omega)
 cases hwl with
 | cons w1 w2 =>
   cases w2
   cases w1 with
   | list ho hall => exact ⟨_, _, ns, rfl, rfl, ho, ints_of_wellAll ns _ hall, hlen⟩
theorem post_true (l : OpenLaw) (args : List WData) : l.row.toRowW.claim.post args (.bool true) args = true :=
 postW_of (r := l.row.toRowW) (X := (true == true))
   (show WShape.has [] (.bool true) .bool = true by first | rfl | decide | simp [WShape.has, WShape.arms, WShape.armsAll])
   (show (WTm.eq .res (.lit (.bool true))).value [] { args := args, res := some (.bool true), after := args } = some (.bool (true == true)) from w_eq_bool (w_res rfl) w_lit) rfl
theorem attach_call {l : OpenLaw} {n : Nat} {q : Program} {loose : List Str} {XP : (Str → Option Value) → Heap → Prop} {YP : World → Heap → Prop} {d : DefRec}
   (hn : l.most = some n) (hdf : d.params.defaults = [])
   (call : ∀ (w : World) (s₀ s₁ : Shared) (mg mb : Str → Option Value) (fa : Addr) (o : Obj) (pm cd doc : Value) (a : Addr) (vs : List Value) (ns : List Int),
     Ground q loose [] XP w s₀ mg mb s₁.heap → YP w s₁.heap →
     s₁.heap.get? fa = some o → o.data = .func (docDef d.name d.params d.body d.scope pm cd doc) → s₁.heap.CodeRec cd d.name → mg d.name = some (.ref fa) →
     s₁.heap.get? a = some { cls := .type "list", data := .seq vs.toArray } → IntsAre vs ns → ns.length ≤ n → s₁.gens = #[] →
     codeAny (model l.prog w) callerA (.call (.ref fa) ⟨[.ref a], []⟩) (fun r s' => r = .ok (.ret (.bool true)) ∧ OldK s₁.heap s'.heap ∧ s'.os = s₁.os ∧ AllBare s'.gens) s₁) :
   WalkO q loose XP YP l.row.toRowW d [] (fun f vs => PySem.call f vs) := by
 intro w s₀ s₁ mg mb G Y fa o pm cd doc dV kV ho hd hcd hD hmg hg args vals as hpre hlay hrd hwl hlo
 obtain rfl : dV = .none := Dflts.none hD hdf
 obtain rfl : kV = .none := Dflts.noKw hD
 obtain ⟨a, vs, ns, rfl, rfl, hobj, hints, hlen⟩ := script_of hn hpre hwl
 refine enter_call (codeAny_mono (call w s₀ s₁ mg mb fa o pm cd doc a vs ns G Y ho (fd_plain hd) hcd hmg hobj hints hlen hg) fun r s' hq => ?_)
 obtain ⟨rfl, h2, h3, h4⟩ := hq
 exact ⟨.inl ⟨.bool true, .bool true, [], rfl, fun _ => rfl, .bool true, post_true l _, fun _ => ⟨List.Pairwise.nil, fun _ hm => (nomatch hm)⟩⟩, h2, h3, h4⟩
end Att
namespace L2
open PySem PySem.Spec PyProof.Rows
theorem vals_ints : ∀ {vs : List Value} {ns : List Int}, IntsAre vs ns → Vals (ns.map V.int) vs
 | _, _, .nil => .nil
 | _, _, .cons n t h => .cons ⟨t, rfl⟩ (vals_ints h)
def Only (H : Hp) : Prop := ∀ b, H b = none ∨ ∃ o xs, H b = some (.frz o (.lst xs))
theorem law_call {P : Program} {w : World} {K : PySem.W.Frag} {mg mb : Str → Option Value} {CX : CXT} {k : Nat} {fa a : Addr} {fd : FuncData} {x : Str} {sp : Sp} {s₁ : Shared} {vs : List Value} {ns : List Int}
   (KX : K.In s₁.heap) (hns : s₁.heap.Ns mainGlobals mg) (hb : s₁.heap.Ns builtinsNs mb) (hbb : ∀ x : Str, x ≠ "__name__" → mb x = bootBuiltins x) (hlim : s₁.heap.NoLimit) (hg : s₁.gens = #[])
   (ha : s₁.heap.get? a = some { cls := .type "list", data := .seq vs.toArray }) (hi : IntsAre vs ns) (hl : ns.length ≤ sizeLine) (hr : Room k callerA)
   (F : ∀ base : Heap, K.In base → base.Ns mainGlobals mg → FnOk P w K mg base CX k fa fd [x] sp) (hbind : ∀ (s : Shared) (u : Value), BindsTo s fd ⟨[u], []⟩ [(x, u)])
   (hsp : ∀ H : Hp, Only H → SqL K H a (ns.map V.int) → sp [.ref a] H (fun v _ => v = .bl true) fun _ _ _ => False)
   (hCX : ∀ H e s', CX [] H s₁ (fun _ _ _ => False) e s' → False) :
   codeAny (model P w) callerA (.call (.ref fa) ⟨[.ref a], []⟩) (fun r s' => r = .ok (.ret (.bool true)) ∧ OldK s₁.heap s'.heap ∧ s'.os = s₁.os ∧ AllBare s'.gens) s₁ := by
 have rv := vals_ints hi
 have lenV := hi.length
 -- from an abstract heap in which nothing but the script may be tracked
 have core : ∀ H : Hp, Only H → SqL K H a (ns.map V.int) → HOk P w H s₁.heap → (∀ b, H b ≠ none → b = a) → (H a ≠ none → K.lookup a = none) →
     codeAny (model P w) callerA (.call (.ref fa) ⟨[.ref a], []⟩) (fun r s' => r = .ok (.ret (.bool true)) ∧ OldK s₁.heap s'.heap ∧ s'.os = s₁.os ∧ AllBare s'.gens) s₁ := by
   intro H hO hS hok hA hK
   have base_of : ∀ {b : Addr} {o : Obj}, s₁.heap.get? b = some o → H b = none → (hidT s₁.heap H).get? b = some o := fun e n => hidT_get e n
   have noA : ∀ {b : Addr} {o : Obj} {es : Array DictEntry} {ep : Nat}, s₁.heap.get? b = some o → o.data = .dict es ep → H b = none := fun {b o es ep} e d => by
     cases q : H b with
     | none => rfl
     | some u =>
       have e' : b = a := hA b (by rw [q]; simp)
       subst e'
       rw [ha] at e; cases e
       have d' : Data.seq vs.toArray _ = Data.dict es ep := d
       cases d'
   have nsK : ∀ {b : Addr} {m : Str → Option Value}, s₁.heap.Ns b m → (hidT s₁.heap H).Ns b m := fun {b m} ⟨o, es, ep, e, d, r⟩ => ⟨o, es, ep, base_of e (noA e d), d, r⟩
   have hKb : K.In (hidT s₁.heap H) := fun b o e => base_of (KX b o e) (by
     cases q : H b with
     | none => rfl
     | some u =>
       have e' : b = a := hA b (by rw [q]; simp)
       subst e'
       rw [hK (by rw [q]; simp)] at e; cases e)
   have hM : Mod K mg (hidT s₁.heap H) := ⟨hKb, nsK hns, ⟨mb, nsK hb, hbb⟩, let ⟨mc, h1, h2⟩ := hlim; ⟨mc, nsK h1, h2⟩⟩
   have e0 : Env0 P w K mg (hidT s₁.heap H) callerA [] s₁ H := ⟨rfl, hM, fun b o e => of_hidT e, Nat.le_of_eq (hidT_size _ _), trivial, fun b hb => absurd (show b ∈ ([] : List Addr) from hb) (by simp), hok, .of_eq hg⟩
   refine codeAny_mono ((F _ hKb (nsK hns)).run callerA [] s₁ H ⟨[.ref a], []⟩ [.ref a] [.ref a] _ _ hr e0 (hbind s₁ (.ref a)) (.cons rfl .nil) (hsp H hO hS)) fun r s' h => ?_
   cases r with
   | error e => exact (hCX H e s' h).elim
   | ok fl =>
     cases fl with
     | next => exact False.elim h
     | brk => exact False.elim h
     | cont => exact False.elim h
     | ret u =>
       obtain ⟨v, H', os, bare, un, hok', r', q⟩ := h
       have q' : v = .bl true := q
       subst q'
       obtain rfl : u = Value.bool true := r'
       refine ⟨rfl, OldK.of_keep fun b o e => ?_, os, bare⟩
       cases q : H b with
       | none => exact un.keep b o e q (by intro z; exact absurd (show b ∈ ([] : List Addr) from z) (by simp)) (by simp)
       | some u =>
         rcases hO b with z | ⟨ob, xs, z⟩
         · rw [q] at z; cases z
         · have z2 := un.frzs b ob _ z
           obtain ⟨e1, _⟩ := hok b _ z
           obtain ⟨e2, _⟩ := hok' b _ z2
           rw [e] at e1; cases e1
           exact e2
 cases hk : K.lookup a with
 | some o =>
   -- the script is one of the module's own objects
   have e := KX a o hk
   rw [ha] at e
   cases e
   refine core (fun _ => none) (fun _ => .inl rfl) (.inr ⟨_, vs.toArray, _, hk, rfl, rfl, rfl, by rw [List.size_toArray, lenV]; exact hl, by simpa using rv⟩) (fun b u z => by have z' : (none : Option HO) = some u := z; cases z') (fun b z => absurd rfl z) fun z => absurd rfl z
 | none =>
   refine core (fun b => if b = a then some (.frz { cls := .type "list", data := .seq vs.toArray } (.lst (ns.map V.int))) else none) (fun b => ?_) (.inl (.inr ⟨{ cls := .type "list", data := .seq vs.toArray }, if_pos rfl⟩)) (fun b u z => ?_) (fun b z => ?_) fun _ => hk
   · by_cases hb : b = a
     · exact .inr ⟨_, _, if_pos hb⟩
     · exact .inl (if_neg hb)
   · by_cases hb : b = a
     · have z' := (if_pos hb).symm.trans z
       cases z'
       subst hb
       exact ⟨ha, by rw [List.length_map]; exact hl, vs, _, rv, ha⟩
     · have z' := (if_neg hb).symm.trans z
       cases z'
   · by_cases hb : b = a
     · exact hb
     · exact absurd (if_neg hb) z
end L2
namespace L2
open PySem PySem.Spec PyProof.Rows
theorem walk_of {l : PySem.W.OpenLaw} {n k : Nat} {q : Program} {loose : List Str} {XP : (Str → Option Value) → Heap → Prop} {YP : World → Heap → Prop} {d : DefRec} {K : Params → PySem.W.Frag} {CX : World → CXT} {sp : World → Sp} {x : Str}
   (hn : l.most = some n) (hn2 : n ≤ sizeLine) (hdf : d.params.defaults = []) (hr : Room k callerA)
   (hY : ∀ (w : World) (h : Heap), YP w h → (K w.params).In h)
   (F : ∀ (w : World) (mg : Str → Option Value) (fa : Addr) (h : Heap), (K w.params).In h → h.Ns mainGlobals mg → mg d.name = some (.ref fa) →
     ∃ fd : FuncData, (∀ (s : Shared) (u : Value), BindsTo s fd ⟨[u], []⟩ [(x, u)]) ∧
       ∀ base : Heap, (K w.params).In base → base.Ns mainGlobals mg → FnOk l.prog w (K w.params) mg base (CX w) k fa fd [x] (sp w))
   (hsp : ∀ (w : World) (H : Hp) (a : Addr) (ns : List Int), ns.length ≤ n → Only H → SqL (K w.params) H a (ns.map V.int) → sp w [.ref a] H (fun v _ => v = .bl true) fun _ _ _ => False)
   (hCX : ∀ (w : World) (H : Hp) (s : Shared) (e : Value) (s' : Shared), CX w [] H s (fun _ _ _ => False) e s' → False) :
   PySem.W.WalkO q loose XP YP l.row.toRowW d [] (fun f vs => PySem.call f vs) := by
 refine Att.attach_call hn hdf fun w s₀ s₁ mg mb fa o pm cd doc a vs ns G Y ho hd hcd hmg hobj hints hlen hg => ?_
 have KX := hY w _ Y
 obtain ⟨fd, hb, hF⟩ := F w mg fa _ KX G.T.g hmg
 exact law_call KX G.T.g G.T.b G.T.builtins G.T.nolimit hg hobj hints (Nat.le_trans hlen hn2) hr hF hb (fun H hO hS => hsp w H a ns hlen hO hS) fun H e s' => hCX w H s₁ e s'
end L2
namespace L2
open PySem PySem.Spec PyProof.Rows
def defArgs (s : Stmt) : Arguments := match s with
 | .FunctionDef _ a _ _ _ _ _ _ _ _ => a
 | _ => { posonlyargs := [], args := [], vararg := none, kwonlyargs := [], kw_defaults := [], kwarg := none, defaults := [] }
def defBody (s : Stmt) : List Stmt := match s with
 | .FunctionDef _ _ b _ _ _ _ _ _ _ => b
 | _ => []
def defScope (s : Stmt) : Scope := match s with
 | .FunctionDef _ _ _ _ _ _ sc _ _ _ => sc
 | _ => { kind := .function, names := [], isGenerator := false, isCoroutine := false }
abbrev CX0 : CXT := fun _ _ _ _ _ _ => False
abbrev E0 : XK := fun _ _ _ => False
theorem pass0 {X : Cx} : Passes CX0 X E0 := fun _ _ _ _ _ _ _ h => h.elim
structure Fun (K : PySem.W.Frag) (x qual : Str) (st : Stmt) (f : Addr) (fd : FuncData) : Prop where
 ex : ∃ (oc : Value) (od : Option Addr) (kV doc pm : Value) (an : Option Addr) (cdv ct : Value) (osl : Array (Option Value)),
   fd = PySem.W.fnOf x qual (defArgs st) (defBody st) (defScope st) .none kV doc pm an cdv ct ∧ K.lookup f = some ⟨oc, od, .func fd, osl⟩ ∧ PySem.W.codeIn K cdv qual = true
 kp : PySem.W.keepIn K (.ref f) = true
section
variable {P : Program} {w : World} {K : PySem.W.Frag} {mg : Str → Option Value} {base : Heap}
theorem Fun.ok {x qual : Str} {st : Stmt} {f : Addr} {fd : FuncData} {N ps : List Str} {k : Nat} {sp : Sp} (F : Fun K x qual st f fd) (S : FnScope N ps (defScope st)) (len : ∀ vs H Q E, sp vs H Q E → vs.length = ps.length)
   (hbody : ∀ (cdv : Value) (A : Around) (outer : List Env) (s : Shared) (H : Hp) (vs : List V) (Q : VK) (E : XK), Room k (A.deeper (envOfC qual (defScope st) s.heap.objs.size f cdv)) → sp vs H Q E →
     ∃ t, PSs (cxOf CX0 P w K mg base N qual (defScope st) f cdv A outer s H E).nox (defBody st) t ∧ t { nx := fun _ H' => Q .non H', rt := Q } (start N vs) H) : FnOk P w K mg base CX0 (k + 1) f fd ps sp := by
 obtain ⟨oc, od, kV, doc, pm, an, cdv, ct, osl, rfl, lk, hcd⟩ := F.ex
 refine fn_of lk hcd S len fun A outer s H vs Q E hr hsp => ?_
 obtain ⟨t, h, q⟩ := hbody cdv A outer s H vs Q E hr hsp
 exact ⟨t, h.nox, q⟩
theorem Fun.binds {x qual : Str} {st : Stmt} {f : Addr} {fd : FuncData} {ps : List Str} (F : Fun K x qual st f fd)
   (h : ∀ (kV doc pm : Value) (an : Option Addr) (cdv ct : Value) (us : List Value), us.length = ps.length → bindArgs (PySem.W.fnOf x qual (defArgs st) (defBody st) (defScope st) .none kV doc pm an cdv ct) ⟨us, []⟩ = pure (ps.zip us)) : Binds K fd ps [] := by
 obtain ⟨oc, od, kV, doc, pm, an, cdv, ct, osl, rfl, lk, hcd⟩ := F.ex
 exact .all (h kV doc pm an cdv ct)
theorem fun_mk {x qual : Str} {st : Stmt} {f : Addr} {oc : Value} {od an : Option Addr} {osl : Array (Option Value)} {kV doc pm cdv ct : Value} (l : K.lookup f = some ⟨oc, od, .func (PySem.W.fnOf x qual (defArgs st) (defBody st) (defScope st) .none kV doc pm an cdv ct), osl⟩)
   (c : PySem.W.codeIn K cdv qual = true) (k : PySem.W.keepIn K (.ref f) = true) : Fun K x qual st f (PySem.W.fnOf x qual (defArgs st) (defBody st) (defScope st) .none kV doc pm an cdv ct) := ⟨⟨oc, od, kV, doc, pm, an, cdv, ct, osl, rfl, l, c⟩, k⟩
end
theorem hu_of {A : Around} {k : Nat} (hr : Room k A) : A.units + 1 < cLine := Nat.lt_of_le_of_lt (Nat.add_le_add_left (by decide : 1 ≤ 64) _) hr.units
theorem iteF {A B : Prop} (h : B) : if false = true then A else B := by
 rw [if_neg Bool.false_ne_true]
 exact h
theorem ite2 {c A B : Prop} [Decidable c] (h1 : c → A) (h2 : ¬ c → B) : if c then A else B := by
 by_cases h : c
 · rw [if_pos h]
   exact h1 h
 · rw [if_neg h]
   exact h2 h
def Same (H H' : Hp) : Prop := ∀ b o, H b = some o → H' b = some o
theorem Same.refl (H : Hp) : Same H H := fun _ _ h => h
theorem Same.trans {H H1 H2 : Hp} (a : Same H H1) (b : Same H1 H2) : Same H H2 := fun c o h => b c o (a c o h)
theorem Same.free {H H' : Hp} (e : Same H H') {l : Addr} (h : H' l = Option.none) : H l = Option.none := by
 cases q : H l with
 | none => rfl
 | some o =>
   rw [e l o q] at h
   cases h
theorem Same.seq {K : PySem.W.Frag} {H H' : Hp} {a : Addr} {xs : List V} (e : Same H H') (h : SqL K H a xs) : SqL K H' a xs := by
 rcases h with (h | ⟨o, h⟩) | h
 · exact .inl (.inl (e _ _ h))
 · exact .inl (.inr ⟨o, e _ _ h⟩)
 · exact .inr h
end L2
set_option maxHeartbeats 4000000
namespace L3
open PySem PySem.Spec
open PyProof.Rows hiding St
open L2
theorem forIn_pure {α β : Type} {l : List α} {f : α → β → Sem (ForInStep β)} (g : α → β → β) : ∀ (c : β), (∀ x ∈ l, ∀ c, f x c = pure (.yield (g x c))) → forIn l c f = pure (l.foldl (fun c x => g x c) c) := by
 induction l with
 | nil => intro c _; rfl
 | cons x l ih =>
   intro c h
   rw [List.forIn_cons, h x List.mem_cons_self, pure_bind]
   exact ih (g x c) fun y hy => h y (List.mem_cons_of_mem _ hy)
def clOf (ns : List (Str × NameKind)) (env : Env) : List (Str × Addr) := ns.foldl (fun cs x => if x.2 == .free then (x.1, (env.cells.lookup x.1).getD 0) :: cs else cs) []
theorem closure_ok {scope : Scope} {env : Env} (h : ∀ p ∈ scope.names, p.2 = .free → ∃ c, env.cells.lookup p.1 = some c) : closureFor scope env = pure (clOf scope.names env) := by
 simp only [closureFor]
 unfold clOf
 rw [forIn_pure (fun (x : Str × NameKind) (cs : List (Str × Addr)) => if x.2 == .free then (x.1, (env.cells.lookup x.1).getD 0) :: cs else cs)]
 · rfl
 · intro x hx c
   obtain ⟨n, k⟩ := x
   dsimp only
   by_cases hk : k = .free
   · subst hk
     obtain ⟨a, ha⟩ := h _ hx rfl
     have ha' : env.cells.lookup n = some a := ha
     simp only [beq_self_eq_true, if_true, cellOf, ha', pure_bind, Option.getD_some]
   · have hb : (k == NameKind.free) = false := by simpa using hk
     simp only [hb, Bool.false_eq_true, if_false]
theorem cl_fold {env : Env} {x : Str} : ∀ (ns : List (Str × NameKind)) (acc : List (Str × Addr)) (c : Addr),
   (ns.foldl (fun cs y => if y.2 == .free then (y.1, (env.cells.lookup y.1).getD 0) :: cs else cs) acc).lookup x = some c → acc.lookup x = some c ∨ ((x, NameKind.free) ∈ ns ∧ c = (env.cells.lookup x).getD 0) := by
 intro ns
 induction ns with
 | nil => intro acc c h; exact .inl h
 | cons y r ih =>
   intro acc c h
   obtain ⟨n, k⟩ := y
   rw [List.foldl_cons] at h
   rcases ih _ c h with h1 | ⟨h1, h2⟩
   · by_cases hk : k = .free
     · subst hk
       simp only [beq_self_eq_true, if_true] at h1
       by_cases hx : x = n
       · subst hx
         rw [List.lookup_cons_self] at h1
         cases h1
         exact .inr ⟨List.mem_cons_self, rfl⟩
       · have hb : (x == n) = false := by simpa using hx
         rw [List.lookup_cons, hb] at h1
         exact .inl h1
     · have hb : (k == NameKind.free) = false := by simpa using hk
       simp only [hb, Bool.false_eq_true, if_false] at h1
       exact .inl h1
   · exact .inr ⟨List.mem_cons_of_mem _ h1, h2⟩
theorem cl_fold_has {env : Env} {x : Str} : ∀ (ns : List (Str × NameKind)) (acc : List (Str × Addr)), (acc.lookup x).isSome = true ∨ (x, NameKind.free) ∈ ns →
   ((ns.foldl (fun cs y => if y.2 == .free then (y.1, (env.cells.lookup y.1).getD 0) :: cs else cs) acc).lookup x).isSome = true := by
 intro ns
 induction ns with
 | nil => intro acc h; rcases h with h | h
          · exact h
          · exact absurd h (by simp)
 | cons y r ih =>
   intro acc h
   obtain ⟨n, k⟩ := y
   rw [List.foldl_cons]
   refine ih _ ?_
   by_cases hk : k = .free
   · subst hk
     simp only [beq_self_eq_true, if_true]
     by_cases hx : x = n
     · subst hx
       left
       rw [List.lookup_cons_self]
       rfl
     · have hb : (x == n) = false := by simpa using hx
       rw [List.lookup_cons, hb]
       rcases h with h | h
       · exact .inl h
       · rcases List.mem_cons.mp h with z | z
         · injection z with z1 _
           exact absurd z1 hx
         · exact .inr z
   · have hb : (k == NameKind.free) = false := by simpa using hk
     simp only [hb, Bool.false_eq_true, if_false]
     rcases h with h | h
     · exact .inl h
     · rcases List.mem_cons.mp h with z | z
       · injection z with _ z2
         exact absurd z2.symm hk
       · exact .inr z
theorem cl_of {ns : List (Str × NameKind)} {env : Env} {x : Str} {c : Addr} (h : (clOf ns env).lookup x = some c) : (x, NameKind.free) ∈ ns ∧ c = (env.cells.lookup x).getD 0 := by
 rcases cl_fold ns [] c h with z | z
 · cases z
 · exact z
theorem cl_has {ns : List (Str × NameKind)} {env : Env} {x : Str} {c : Addr} (h : (x, NameKind.free) ∈ ns) (e : env.cells.lookup x = some c) : (clOf ns env).lookup x = some c := by
 obtain ⟨d, hd⟩ := Option.isSome_iff_exists.mp (cl_fold_has (env := env) ns [] (.inr h))
 have hd' : (clOf ns env).lookup x = some d := hd
 rw [hd', (cl_of hd').2, e]
 rfl
theorem lookup_relabel {env : Env} {x : Str} : ∀ (names : List (Str × NameKind)),
   (names.map fun (n, k) => if (k == NameKind.free && env.scope.kind == .function && env.kindOf n == some .cell) then (n, NameKind.cell) else (n, k)).lookup x =
     (names.lookup x).map fun k => if (k == NameKind.free && env.scope.kind == .function && env.kindOf x == some .cell) then NameKind.cell else k
 | [] => rfl
 | (n, k) :: r => by
   have ih := lookup_relabel (env := env) (x := x) r
   show List.lookup x ((if (k == NameKind.free && env.scope.kind == .function && env.kindOf n == some .cell) = true then (n, NameKind.cell) else (n, k)) :: _) = _
   by_cases hx : x = n
   · subst hx
     by_cases hc : (k == NameKind.free && env.scope.kind == .function && env.kindOf x == some .cell) = true
     · rw [if_pos hc, List.lookup_cons_self, List.lookup_cons_self, Option.map_some, if_pos hc]
     · rw [if_neg hc, List.lookup_cons_self, List.lookup_cons_self, Option.map_some, if_neg hc]
   · have hb : (x == n) = false := by simpa using hx
     by_cases hc : (k == NameKind.free && env.scope.kind == .function && env.kindOf n == some .cell) = true
     · rw [if_pos hc, List.lookup_cons, hb, List.lookup_cons, hb]; exact ih
     · rw [if_neg hc, List.lookup_cons, hb, List.lookup_cons, hb]; exact ih
theorem cf_ok {x : Str} {c : Addr} : ∀ (names : List (Str × NameKind)) (h : Heap) (acc : List (Str × Addr)), (cellsFrom h.objs.size names acc).lookup x = some c →
   acc.lookup x = some c ∨ ((x, NameKind.cell) ∈ names ∧ h.objs.size ≤ c ∧ (pushCells h names).IsCell c none)
 | [], _, _, e => .inl e
 | (n, k) :: r, h, acc, e => by
   unfold cellsFrom at e
   unfold pushCells
   by_cases hk : k = .cell
   · subst hk
     simp only [beq_self_eq_true, if_true] at e ⊢
     rw [← Heap.size_push h { cls := .type "cell", data := .cell none }] at e
     rcases cf_ok r _ _ e with z | ⟨z1, z2, z3⟩
     · by_cases hx : x = n
       · subst hx
         rw [List.lookup_cons_self] at z
         cases z
         exact .inr ⟨List.mem_cons_self, Nat.le_refl _, ⟨_, pushCells_keeps r _ _ _ (Heap.get?_push_size _ rfl), rfl⟩⟩
       · have hb : (x == n) = false := by simpa using hx
         rw [List.lookup_cons, hb] at z
         exact .inl z
     · rw [Heap.size_push] at z2
       exact .inr ⟨List.mem_cons_of_mem _ z1, by omega, z3⟩
   · have hb : (k == NameKind.cell) = false := by simpa using hk
     simp only [hb, Bool.false_eq_true, if_false] at e ⊢
     rcases cf_ok r h acc e with z | ⟨z1, z2, z3⟩
     · exact .inl z
     · exact .inr ⟨List.mem_cons_of_mem _ z1, z2, z3⟩
theorem cf_has {x : Str} : ∀ (names : List (Str × NameKind)) (n : Nat) (acc : List (Str × Addr)), (x, NameKind.cell) ∉ names → (cellsFrom n names acc).lookup x = acc.lookup x
 | [], _, _, _ => rfl
 | (y, k) :: r, n, acc, h => by
   have hr : (x, NameKind.cell) ∉ r := fun z => h (List.mem_cons_of_mem _ z)
   unfold cellsFrom
   by_cases hk : k = .cell
   · subst hk
     simp only [beq_self_eq_true, if_true]
     have hx : (x == y) = false := by
       have : x ≠ y := fun z => h (by rw [z]; exact List.mem_cons_self)
       simpa using this
     rw [cf_has r _ _ hr, List.lookup_cons, hx]
   · have hb : (k == NameKind.cell) = false := by simpa using hk
     simp only [hb, Bool.false_eq_true, if_false]
     exact cf_has r n acc hr
theorem cf_inj : ∀ (names : List (Str × NameKind)) (n : Nat) (acc : List (Str × Addr)), (∀ x c, acc.lookup x = some c → c < n) → (∀ x y c, acc.lookup x = some c → acc.lookup y = some c → x = y) →
   ∀ x y c, (cellsFrom n names acc).lookup x = some c → (cellsFrom n names acc).lookup y = some c → x = y
 | [], _, _, _, hi => hi
 | (a, k) :: r, n, acc, hb, hi => by
   unfold cellsFrom
   by_cases hk : k = .cell
   · subst hk
     simp only [beq_self_eq_true, if_true]
     have lk : ∀ x c, ((a, n) :: acc).lookup x = some c → (x = a ∧ c = n) ∨ (x ≠ a ∧ acc.lookup x = some c) := fun x c e => by
       by_cases hx : x = a
       · subst hx; rw [List.lookup_cons_self] at e; cases e; exact .inl ⟨rfl, rfl⟩
       · have hz : (x == a) = false := by simpa using hx
         rw [List.lookup_cons, hz] at e
         exact .inr ⟨hx, e⟩
     refine cf_inj r (n + 1) _ (fun x c e => ?_) fun x y c e1 e2 => ?_
     · rcases lk x c e with ⟨_, z⟩ | ⟨_, z⟩
       · rw [z]; exact Nat.lt_succ_self _
       · exact Nat.lt_succ_of_lt (hb x c z)
     · rcases lk x c e1 with ⟨z1, w1⟩ | ⟨z1, w1⟩ <;> rcases lk y c e2 with ⟨z2, w2⟩ | ⟨z2, w2⟩
       · rw [z1, z2]
       · exact absurd (hb y c w2) (by rw [w1]; exact Nat.lt_irrefl _)
       · exact absurd (hb x c w1) (by rw [w2]; exact Nat.lt_irrefl _)
       · exact hi x y c w1 w2
   · have hz : (k == NameKind.cell) = false := by simpa using hk
     simp only [hz, Bool.false_eq_true, if_false]
     exact cf_inj r n acc hb hi
theorem new_env_cl {M : Model} {A : Around} {E : Value → Shared → Prop} {s : Shared} {scope : Scope} {globals : Addr} {cl : List (Str × Addr)} {qual : Str} {code : Value} {env : Env} {builtins : Addr} {Q : Env → Shared → Prop}
   (h : ∀ h', h'.Ns s.heap.objs.size (fun _ => none) → (∀ b o, s.heap.get? b = some o → h'.get? b = some o) → (∀ x c, (cellsFrom (s.heap.objs.size + 1) scope.names cl).lookup x = some c → cl.lookup x = some c ∨ ((x, NameKind.cell) ∈ scope.names ∧ s.heap.objs.size + 1 ≤ c ∧ h'.IsCell c none)) →
     Q (newEnv scope s.heap.objs.size globals (cellsFrom (s.heap.objs.size + 1) scope.names cl) qual none code (some env) builtins) { s with heap := h' }) :
   wpAny M A (newFunctionEnv scope globals cl [] qual none code (some env) builtins) Q E s := by
 simp only [newFunctionEnv, Option.isSome_some, if_true]
 refine wpAny_bind (wpAny_alloc ?_)
 refine wpAny_bind (wpAny_layCells _ (fun name kind cells => by cases hkc : kind == NameKind.cell <;> simp [hkc]) _ _ _ _ ?_)
 rw [show ({ s with heap := s.heap.push { cls := .type "dict", data := .dict #[] } } : Shared).heap.objs.size = s.heap.objs.size + 1 from Heap.size_push ..]
 rw [List.forIn_nil]
 refine wpAny_bind (wpAny_pure (wpAny_pure (h _ ((Heap.Ns.new s.heap (.type "dict")).keeps (pushCells_keeps _ _)) (fun b o e => pushCells_keeps _ _ b o (Heap.get?_push_of_some _ e)) fun x c e => ?_)))
 have := cf_ok scope.names (s.heap.push { cls := .type "dict", data := .dict #[] }) cl (x := x) (c := c) (by rw [Heap.size_push]; exact e)
 rwa [Heap.size_push] at this
def compCx (X : Cx) (scope : Scope) (N' : List Str) (C : Addr) (s : Shared) (H : Hp) (ex : List Addr) : Cx :=
 { X with N := N', s₀ := s, H₀ := H, env := compEnvC scope (cellsFrom (C + 1) scope.names (clOf scope.names X.env)) C X.env, outer := X.stack, stack := X.stack, ex := ex, fn := fun x => scope.names.lookup x == some .cell, pn := [], xe := fun _ _ => False }
def scopeOk (h : Nat) (N' N : List Str) (names sc : List (Str × NameKind)) : Bool :=
 decide (N'.length = h + N.length) && decide N'.Nodup
 && (names.all fun p => (p.2 != .cell || names.lookup p.1 == some .cell) && (p.2 != .local || names.lookup p.1 == some .local) && (p.2 != .free || (names.lookup p.1 == some .free && (sc.lookup p.1 == some .cell || sc.lookup p.1 == some .free))))
 && (((N'.drop h).zip N).all fun p => match names.lookup p.1 with | some .free => p.1 == p.2 | some .local => false | some .cell => false | _ => true)
structure ScopeOk (h : Nat) (N' N : List Str) (scope : Scope) (sc : Scope) : Prop where
 kind : scope.kind = .function
 len : N'.length = h + N.length
 nd : N'.Nodup
 cell : ∀ y ∈ scope.names, y.2 = .cell → scope.names.lookup y.1 = some .cell
 loc : ∀ y ∈ scope.names, y.2 = .local → scope.names.lookup y.1 = some .local
 free : ∀ y ∈ scope.names, y.2 = .free → scope.names.lookup y.1 = some .free ∧ (sc.names.lookup y.1 = some .cell ∨ sc.names.lookup y.1 = some .free)
 out : ∀ (i : Nat) (x : Str) (k : NameKind), N'[h + i]? = some x → scope.names.lookup x = some k → (k = .local ∨ k = .cell ∨ k = .free) → N[i]? = some x ∧ k = .free
theorem ScopeOk.of {h : Nat} {N' N : List Str} {scope sc : Scope} (hk : scope.kind = .function) (e : scopeOk h N' N scope.names sc.names = true) : ScopeOk h N' N scope sc := by
 unfold scopeOk at e
 simp only [Bool.and_eq_true, decide_eq_true_eq, List.all_eq_true] at e
 obtain ⟨⟨⟨e1, e2⟩, e3⟩, e4⟩ := e
 refine ⟨hk, e1, e2, fun y hy z => ?_, fun y hy z => ?_, fun y hy z => ?_, fun i x k hx hl hkk => ?_⟩
 · have := e3 y hy
   rw [z] at this
   simpa using this
 · have := e3 y hy
   rw [z] at this
   simpa using this
 · have := e3 y hy
   rw [z] at this
   simpa using this
 · have h1 : (N'.drop h)[i]? = some x := by rw [List.getElem?_drop]; exact hx
   have hi : i < N.length := by
     obtain ⟨z, _⟩ := List.getElem?_eq_some_iff.mp hx
     omega
   have h2 : N[i]? = some N[i] := List.getElem?_eq_getElem hi
   have hm : (x, N[i]) ∈ (N'.drop h).zip N := by
     refine List.mem_of_getElem? (i := i) ?_
     rw [List.getElem?_zip_eq_some]
     exact ⟨h1, h2⟩
   have q := e4 _ hm
   rw [hl] at q
   rcases hkk with rfl | rfl | rfl
   · exact absurd q (by simp)
   · exact absurd q (by simp)
   · have q' : x = N[i] := by simpa using q
     exact ⟨by rw [h2, ← q'], rfl⟩
def PF (X : Cx) (ifs : List Expr) (t : TT) : Prop :=
 ∀ (pins : List (Addr × Obj)) (s : Shared) (σ : St) (H : Hp) (Q : Bool → Hp → Prop), Inv X pins σ H s → t σ H Q →
   wpAny (model X.prog X.w) X.A (forIn ifs true fun c r => if r = true then do let ok ← isTrue c X.env (eval c X.env); pure (ForInStep.yield ok) else pure (ForInStep.yield r)) (TP X pins σ Q) X.xe s
def tYes : TT := fun _ H Q => Q true H
theorem pf_nil {X : Cx} : PF X [] tYes := fun _ _ _ H _ I h => wpAny_tests_nil ⟨H, I, h⟩
theorem pf_one {X : Cx} {c : Expr} {t : TT} (h : PT X c t) : PF X [c] t := fun pins s σ H Q I q => wpAny_tests_one (h pins s σ H Q I q)
def OwnG (h : Nat) (g : TG) : Prop := ∀ v (σ : St) H Q, h ≤ σ.length → g v σ H Q → g v σ H fun σ2 H2 => Q σ2 H2 ∧ σ2.length = σ.length ∧ σ2.drop h = σ.drop h
theorem own_name {h i : Nat} (hi : i < h) : OwnG h (gName i) := fun v σ H Q hl q => ⟨q, by simp, by rw [List.drop_set_of_lt hi]⟩
def tComp (h : Nat) (wi : TI) (g : TG) (tf : TT) (te : TE) : TE := fun σ H Q => wi σ H fun J H1 => ∀ D, H1 D = none → ∃ W : Nat → Nat → List V → Hp → Prop, (∃ m, W 0 m [] (upd H1 D (.lst []))) ∧ ∀ i m ys H, W i m ys H →
 H D = some (.lst ys) ∧ ((J.stop i H ∧ Q (.ref D) H) ∨ (J.go i H ∧ ∀ x H', J.yld i H x H' → g x (List.replicate h none ++ σ) H' fun σ2 H2 => tf σ2 H2 fun c H3 =>
   if c = true then te σ2 H3 fun y H4 => H4 D = some (.lst ys) ∧ ys.length < sizeLine ∧ ∃ m', m' < m ∧ W (i + 1) m' (ys ++ [y]) (upd H4 D (.lst (ys ++ [y]))) else ∃ m', m' < m ∧ W (i + 1) m' ys H3))
theorem compLoop_go {prog : Program} {w : World} {A : Around} {R : Result → Shared → Prop} {s : Shared} {elt target iter : Expr} {ifs : List Expr} {scope : Scope} {pos : Pos} {it acc : Value} {env : Env} (I : Nat → Shared → Prop)
   (turn : ∀ n s, I n s → wpAny (model prog w) A (pyNext it) (fun r s₁ => match r with
     | none => R (.ok .next) s₁
     | some v => wpAny (model prog w) A (letOwnedTupleGo target it v) (fun _ s₀ => wpAny (model prog w) A (assign target env v) (fun _ s₂ =>
         wpAny (model prog w) A (forIn ifs true fun c r => if r = true then do let ok ← isTrue c env (eval c env); pure (ForInStep.yield ok) else pure (ForInStep.yield r)) (fun ok s₃ =>
           if ok = true then wpAny (model prog w) A (eval elt env) (fun x s₄ =>
             wpAny (model prog w) A (call (.builtin "list.append") [acc, x]) (fun _ s₅ => ∃ m, m < n ∧ I m s₅) (fun _ _ => False) s₄) (fun _ _ => False) s₃
           else ∃ m, m < n ∧ I m s₃) (fun _ _ => False) s₂) (fun _ _ => False) s₀) (fun _ _ => False) s₁) (fun _ _ => False) s)
   (n : Nat) (h : I n s) : codeAny (model prog w) A (.compLoop (.ListComp elt [⟨target, iter, ifs, 0⟩] scope pos) 0 it acc env) R s := by
 refine codeAny_loop rfl I (fun n s hI => ?_) n h
 show wpAny _ A ((compTurn (.ListComp elt [⟨target, iter, ifs, 0⟩] scope pos) 0 it acc env).onRaise (fun x => do noteFrame x env; theTreesLotGoes x)) _ _ s
 refine wpAny_noted ?_
 rw [compTurn_list]
 refine wpAny_bind (wpAny_standAt (wpAny_bind (wpAny_mono (turn n s hI) (fun r s₁ h₁ => ?_) fun _ _ h' => h'.elim)))
 cases r with
 | none => exact wpAny_pure h₁
 | some v =>
   refine wpAny_bind (wpAny_mono h₁ (fun _ s₀ h₀ => ?_) fun _ _ h' => h'.elim)
   refine wpAny_bind (wpAny_mono h₀ (fun _ s₂ h₂ => wpAny_bind (wpAny_mono h₂ (fun ok s₃ h₃ => ?_) fun _ _ h' => h'.elim)) fun _ _ h' => h'.elim)
   cases ok with
   | false => exact wpAny_pure ⟨rfl, h₃⟩
   | true =>
     exact wpAny_bind (wpAny_bind (wpAny_mono h₃ (fun x s₄ h₄ => wpAny_bind (wpAny_mono h₄ (fun _ s₅ h₅ => wpAny_pure (wpAny_pure ⟨rfl, h₅⟩)) fun _ _ h' => h'.elim)) fun _ _ h' => h'.elim))
section
variable {X : Cx} {pins : List (Addr × Obj)} {σ : St} {H : Hp} {s : Shared}
theorem comp_cl {h : Nat} {N' : List Str} {scope : Scope} (I : Inv X pins σ H s) (S : ScopeOk h N' X.N scope X.env.scope) : ∀ x c, (clOf scope.names X.env).lookup x = some c → X.env.cells.lookup x = some c := fun x c e => by
 obtain ⟨h1, h2⟩ := cl_of e
 obtain ⟨d, hd⟩ := I.ok.has x (S.free _ h1 rfl).2
 rw [hd] at h2 ⊢
 rw [h2]; rfl
theorem comp_nf {h : Nat} {N' : List Str} {scope : Scope} (S : ScopeOk h N' X.N scope X.env.scope) {x : Str} (hf : (x, NameKind.free) ∈ scope.names) : (x, NameKind.cell) ∉ scope.names := fun z => by
 have a := (S.free _ hf rfl).1
 have b := S.cell _ z rfl
 rw [show scope.names.lookup x = some .free from a] at b
 cases b
theorem comp_cells {h : Nat} {N' : List Str} {scope : Scope} (I : Inv X pins σ H s) (S : ScopeOk h N' X.N scope X.env.scope) : ∀ x c, (cellsFrom (s.heap.objs.size + 1) scope.names (clOf scope.names X.env)).lookup x = some c → X.env.cells.lookup x = some c ∨ ((x, NameKind.cell) ∈ scope.names ∧ s.heap.objs.size + 1 ≤ c) := fun x c e => by
 have z := cf_ok scope.names (s.heap.push { cls := .type "dict", data := .dict #[] }) (clOf scope.names X.env) (x := x) (c := c) (by rw [Heap.size_push]; exact e)
 rw [Heap.size_push] at z
 rcases z with z | ⟨z1, z2, _⟩
 · exact .inl (comp_cl I S x c z)
 · exact .inr ⟨z1, z2⟩
theorem comp_below {h : Nat} {N' : List Str} {scope : Scope} (I : Inv X pins σ H s) (S : ScopeOk h N' X.N scope X.env.scope) : ∀ x c, (clOf scope.names X.env).lookup x = some c → c < s.heap.objs.size + 1 := fun x c e => by
 obtain ⟨v, o, ho, _⟩ := I.cell x c (comp_cl I S x c e)
 exact Nat.lt_succ_of_lt (Heap.lt_size ho)
theorem comp_ok {h : Nat} {N' : List Str} {scope : Scope} {fp : List Addr} (I : Inv X pins σ H s) (S : ScopeOk h N' X.N scope X.env.scope) (hf : ∀ b ∈ fp, FpOk X pins H b) (hlt : ∀ b ∈ fp, b < s.heap.objs.size) :
   (compCx X scope N' s.heap.objs.size s H fp).Ok := by
 have cl := comp_cells I S
 refine ⟨I.ok.mod, ?_, I.ok.glob, I.ok.blt, Nat.le_refl _, cf_inj _ _ _ (comp_below I S) fun x y c e1 e2 => I.ok.inj x y c (comp_cl I S x c e1) (comp_cl I S y c e2), fun x hx => ?_, fun x c z e => ?_, I.ok.hd, I.ok.frames, .inl rfl, fun b hb => ⟨Nat.ne_of_lt (hlt b hb), fun x c e => (cl x c e).elim (fun z => (hf b hb).2.2.2.2.1 x c z) fun z w => Nat.lt_irrefl _ (Nat.lt_of_lt_of_le (hlt b hb) (Nat.le_of_succ_le (w ▸ z.2)))⟩, fun b o e => I.bs b o e, Nat.le_trans I.ok.bsz I.sz, fun b o e hb => ?_, fun b hb z => ?_, I.stack, I.stkFree⟩
 · exact S.kind
 · have hx' : (relabel scope X.env).names.lookup x = some .cell ∨ (relabel scope X.env).names.lookup x = some .free := hx
   have e := lookup_relabel (env := X.env) (x := x) scope.names
   have hl : scope.names.lookup x = some .free ∨ scope.names.lookup x = some .cell := by
     cases q : scope.names.lookup x with
     | none => rw [q] at e; rcases hx' with z | z <;> (have z' := e.symm.trans z; cases z')
     | some k =>
       rw [q, Option.map_some] at e
       by_cases hk : k = .free
       · rw [hk]; exact .inl rfl
       · have hc : ¬ (k == NameKind.free && X.env.scope.kind == .function && X.env.kindOf x == some .cell) = true := by
           have : (k == NameKind.free) = false := by simpa using hk
           rw [this]; simp
         rw [if_neg hc] at e
         rcases hx' with z | z
         · have z' := e.symm.trans z
           cases z'
           exact .inr rfl
         · have z' := e.symm.trans z
           cases z'
           exact .inl rfl
   rcases hl with hl | hl
   · have hm := PySem.mem_of_lookup hl
     obtain ⟨c, hc⟩ := I.ok.has x (S.free _ hm rfl).2
     exact ⟨c, (cf_has _ _ _ (comp_nf S hm)).trans (cl_has hm hc)⟩
   · exact Option.isSome_iff_exists.mp (PySem.W.cellsFrom_some _ _ _ (.inl hl))
 · have z : (scope.names.lookup x == some NameKind.cell) = true := z
   have z : scope.names.lookup x = some .cell := by simpa using z
   rcases cf_ok scope.names (s.heap.push { cls := .type "dict", data := .dict #[] }) (clOf scope.names X.env) (x := x) (c := c) (by rw [Heap.size_push]; exact e) with w | ⟨_, w, _⟩
   · exact absurd (PySem.mem_of_lookup z) (comp_nf S (cl_of w).1)
   · rw [Heap.size_push] at w
     exact Nat.le_of_succ_le w
 · rcases (hf b hb).2.2.2.1 with z | z
   · exact I.ok.noex b o e z
   · exact absurd (Nat.lt_of_lt_of_le (Heap.lt_size (I.ok.bs b o e).1) z) (Nat.lt_irrefl _)
 · obtain ⟨_, f1, f2, _⟩ := hf b hb
   rcases List.mem_cons.mp (I.stkSub b z) with q | q
   · exact f1 q
   · exact f2 q
theorem comp_start {h : Nat} {N' : List Str} {scope : Scope} {fp : List Addr} {h' : Heap} {tk : Nat} (I : Inv X pins σ H s) (S : ScopeOk h N' X.N scope X.env.scope) (hf : ∀ b ∈ fp, FpOk X pins H b) (hlt : ∀ b ∈ fp, b < s.heap.objs.size)
   (hn : h'.Ns s.heap.objs.size fun _ => none) (kp : ∀ b o, s.heap.get? b = some o → h'.get? b = some o) (hcs : ∀ x c, (cellsFrom (s.heap.objs.size + 1) scope.names (clOf scope.names X.env)).lookup x = some c → (clOf scope.names X.env).lookup x = some c ∨ ((x, NameKind.cell) ∈ scope.names ∧ s.heap.objs.size + 1 ≤ c ∧ h'.IsCell c none)) :
   Inv (compCx X scope N' s.heap.objs.size s H fp) [] (List.replicate h none ++ σ) H { s with heap := h', toks := tk } := by
 have ok := comp_ok I S hf hlt
 have cl := comp_cl I S
 refine ⟨ok, rfl, I.bare, Un.kept kp, ⟨_, hn, fun i x v e1 e2 e3 => ?_⟩, fun x c e => ?_, I.hok.fresh (Nat.le_refl _), fun x c e => (hcs x c e).elim (fun z => I.freeC x c (cl x c z)) fun z => I.hok.fresh (Nat.le_of_succ_le z.2.1), fun p hp => absurd (show p ∈ ([] : List (Addr × Obj)) from hp) (by simp), I.hok.kept kp, ?_⟩
 · have e1 : N'[i]? = some x := e1
   by_cases hi : i < h
   · rw [List.getElem?_append_left (by simpa using hi), List.getElem?_replicate, if_pos hi] at e2
     cases e2
   · obtain ⟨j, rfl⟩ : ∃ j, i = h + j := ⟨i - h, by omega⟩
     rw [List.getElem?_append_right (by simp), List.length_replicate, Nat.add_sub_cancel_left] at e2
     have e3 : Vis (relabel scope X.env) x := e3
     have er := lookup_relabel (env := X.env) (x := x) scope.names
     have hl : ∃ k, scope.names.lookup x = some k ∧ (k = .local ∨ k = .cell ∨ k = .free) ∧ (relabel scope X.env).names.lookup x = some (if (k == NameKind.free && X.env.scope.kind == .function && X.env.kindOf x == some .cell) then NameKind.cell else k) := by
       cases q : scope.names.lookup x with
       | none => rw [q] at er; rcases e3 with z | z | z <;> (have z' := er.symm.trans z; cases z')
       | some k =>
         rw [q, Option.map_some] at er
         refine ⟨k, rfl, ?_, er⟩
         by_cases hc : (k == NameKind.free && X.env.scope.kind == .function && X.env.kindOf x == some .cell) = true
         · simp only [Bool.and_eq_true, beq_iff_eq] at hc
           exact .inr (.inr hc.1.1)
         · rw [if_neg hc] at er
           rcases e3 with z | z | z <;> (have z' := er.symm.trans z; cases z'; simp)
     obtain ⟨k, hk, hkk, hre⟩ := hl
     obtain ⟨hN, rfl⟩ := S.out j x k e1 hk hkk
     have hm := PySem.mem_of_lookup hk
     have hfr := (S.free _ hm rfl).2
     obtain ⟨m, hnm, hlk⟩ := I.loc
     obtain ⟨u, ru, lk⟩ := hlk j x v hN e2 (by rcases hfr with z | z; exact .inr (.inl z); exact .inr (.inr z))
     refine ⟨u, ru, ?_⟩
     rcases lk with ⟨hloc, _⟩ | ⟨hkd, c, hc, hcell⟩
     · have hloc : X.env.scope.names.lookup x = some .local := hloc
       rcases hfr with z | z <;> (rw [hloc] at z; cases z)
     · refine .inr ⟨?_, c, (cf_has _ _ _ (comp_nf S hm)).trans (cl_has hm hc), ?_⟩
       · show (relabel scope X.env).names.lookup x = some .cell ∨ (relabel scope X.env).names.lookup x = some .free
         rw [hre]
         split
         · exact .inl rfl
         · exact .inr rfl
       · obtain ⟨o, ho, hd⟩ := hcell
         exact ⟨o, kp c o ho, hd⟩
 · rcases hcs x c e with z | z
   · obtain ⟨v, o, ho, hd⟩ := I.cell x c (cl x c z)
     exact ⟨v, o, kp c o ho, hd⟩
   · exact ⟨_, z.2.2⟩
 · show (List.replicate h none ++ σ).length = N'.length
   rw [List.length_append, List.length_replicate, S.len, I.len]
theorem comp_end {h : Nat} {N' : List Str} {scope : Scope} {fp : List Addr} {pins' : List (Addr × Obj)} {σ' : St} {H' : Hp} {s' : Shared} {h' : Heap} (I : Inv X pins σ H s) (S : ScopeOk h N' X.N scope X.env.scope) (hf : ∀ b ∈ fp, FpOk X pins H b)
   (J : Inv (compCx X scope N' s.heap.objs.size s H fp) pins' σ' H' s') (hs : Heap.SameBut s.heap.objs.size s'.heap h') : Inv X pins σ H' { s' with heap := h' } := by
 have ne : ∀ b o, s.heap.get? b = some o → b ≠ s.heap.objs.size := fun b o e => Nat.ne_of_lt (Heap.lt_size e)
 have u : Un (frs X.stack) fp H H' s.heap s'.heap := J.base
 have hC : H' s.heap.objs.size = none := J.free
 obtain ⟨m0, ⟨oC, _, _, hoC, _⟩, _⟩ := id J.loc
 refine I.call' (s' := { s' with heap := h' }) (ch := fp) J.os ⟨fun b o e n hb hx => (hs.2 b (ne b o e)).trans (u.keep b o e n hb hx), fun b o e n hb hx => ?_, u.free, fun b o e hx => ?_, u.tups, u.frzs, u.tbls⟩ (fun b ob e => ?_) J.bare fun b hb => ?_
 · obtain ⟨sl, z⟩ := u.slot b o e n hb hx
   exact ⟨sl, (hs.2 b (ne b o e)).trans z⟩
 · obtain ⟨o', z⟩ := u.there b o e hx
   exact ⟨o', (hs.2 b (ne b o e)).trans z⟩
 · refine (J.hok b ob e).stay (fun c w' hc q => (hs.2 c ?_).trans q) (fun _ q => q) fun _ _ q => q
   rintro rfl
   rcases hc with z | z
   · rw [← z, hC] at e; cases e
   · rw [hC] at z; cases z
 · obtain ⟨_, f1, _, f3, f4, f5⟩ := hf b hb
   exact ⟨f3, f1, f4, f5⟩
end
theorem pe_comp {X : Cx} {elt tg iter : Expr} {ifs : List Expr} {scope : Scope} {pos : Pos} {wi : TI} {g : TG} {tf : TT} {te : TE} {N' : List Str} (h : Nat) (S : ScopeOk h N' X.N scope X.env.scope) (hc : X.calm = true) (hi : PI X tg iter wi)
   (hg : ∀ C s H ex, PG (compCx X scope N' C s H ex) tg g) (ho : OwnG h g) (ht : ∀ C s H ex, PF (compCx X scope N' C s H ex) ifs tf) (he : ∀ C s H ex, PE (compCx X scope N' C s H ex) elt te)
   (hs : ∀ x, foldedSetIterable iter X.env x = pure x := by intro _; rfl) :
   PE X (.ListComp elt [⟨tg, iter, ifs, 0⟩] scope pos) (tComp h wi g tf te) := by
 intro pins s σ H Q I hq
 rw [eval_ListComp]
 refine wpAny_comprehension_free (use := none) rfl hs (closure_ok (env := X.env) fun p hp hk => I.ok.has p.1 (S.free p hp hk).2) S.kind S.loc ?_
 refine thn (hi pins s σ H _ I hq) fun v s1 h1 => thn h1 fun itv s2 h2 => ?_
 obtain ⟨it, fp, tn, J, H2, rfl, I2, T, st2, f2, hq⟩ := h2
 refine wpAny_newObj_type ?_ (by show 0 ≤ sizeLine; exact Nat.zero_le _)
 have hD : H2 s2.heap.objs.size = none := I2.hok.fresh (Nat.le_refl _)
 have I3 : Inv X pins σ (upd H2 s2.heap.objs.size (.lst [])) { s2 with heap := s2.heap.push { cls := .type "list", data := .seq ([] : List Value).toArray }, toks := s2.toks } := I2.lnew (t' := s2.toks) .nil (Nat.zero_le _)
 generalize hs3 : ({ s2 with heap := s2.heap.push { cls := .type "list", data := .seq ([] : List Value).toArray }, toks := s2.toks } : Shared) = s3 at I3
 have hs3' : ({ s2 with heap := s2.heap.push { cls := .type "list", data := .seq ([] : List Value).toArray } } : Shared) = s3 := hs3
 obtain ⟨W, ⟨m0, w0⟩, turn⟩ := hq s2.heap.objs.size hD
 have olt : ∀ b ∈ fp, b < s2.heap.objs.size := fun b hb => by
   obtain ⟨o, e, _⟩ := T.obj _ _ st2 b hb
   exact Heap.lt_size e
 have hsz : s3.heap.objs.size = s2.heap.objs.size + 1 := by rw [← hs3]; exact Heap.size_push ..
 have k23 : ∀ b o, s2.heap.get? b = some o → s3.heap.get? b = some o := fun b o e => by rw [← hs3]; exact Heap.get?_push_of_some _ e
 have f3 : ∀ b ∈ fp, FpOk X pins (upd H2 s2.heap.objs.size (.lst [])) b := fun b hb => ⟨by rw [upd_ne (Nat.ne_of_lt (olt b hb))]; exact (f2 b hb).1, (f2 b hb).2⟩
 have lt3 : ∀ b ∈ fp, b < s3.heap.objs.size := fun b hb => by rw [hsz]; exact Nat.lt_succ_of_lt (olt b hb)
 refine new_env_cl fun h4 hn4 k34 cs4 => ?_
 have I4 := comp_start (h' := h4) (tk := s3.toks) I3 S f3 lt3 hn4 k34 cs4
 have st4 : tn 0 h4 := T.keep _ _ _ st2 fun b hb o e => k34 b o (k23 b o e)
 generalize hX : compCx X scope N' s3.heap.objs.size s3 (upd H2 s2.heap.objs.size (.lst [])) fp = X' at I4
 have hA : X'.A = X.A := by rw [← hX]; rfl
 -- the iterator's objects, in the block
 have fpX : ∀ {H' : Hp} {pl : List (Addr × Obj)}, (∀ b ∈ fp, H' b = none) → pl = [] → ∀ b ∈ fp, FpOk X' pl H' b := fun {H' pl} hn0 hpl b hb => by
   subst hpl
   obtain ⟨q0, q1, q2, q3, q4, q5⟩ := f3 b hb
   subst hX
   refine ⟨hn0 b hb, Nat.ne_of_lt (lt3 b hb), fun z => ?_, .inl hb, fun x c e => (comp_cells I3 S x c e).elim (q4 x c) fun z w => Nat.lt_irrefl _ (Nat.lt_of_lt_of_le (lt3 b hb) (Nat.le_of_succ_le (w ▸ z.2))), fun p hp => absurd (show p ∈ ([] : List (Addr × Obj)) from hp) (by simp)⟩
   rcases List.mem_cons.mp (I3.stkSub b z) with z | z
   · exact q1 z
   · exact q2 z
 have hcX : X'.calm = true := by rw [← hX]; exact hc
 have hR : ∀ s' : Shared, (∃ (m : Nat) (i : Nat) (ys : List V) (H' : Hp), Inv X' [] (List.replicate h none ++ σ) H' s' ∧ tn i s'.heap ∧ (∀ b ∈ fp, H' b = none) ∧ W i m ys H') → True := fun _ _ => trivial
 have loop : ∀ (sL : Shared), (Inv X' [] (List.replicate h none ++ σ) (upd H2 s2.heap.objs.size (.lst [])) sL) → tn 0 sL.heap →
     codeAny (model X.prog X.w) X.A (.compLoop (.ListComp elt [⟨tg, iter, ifs, 0⟩] scope pos) 0 (.ref it) (.ref s2.heap.objs.size) X'.env)
       (compPost (model X.prog X.w) X.A X.xe none (EP X pins σ Q) (.ref s2.heap.objs.size) s3.heap.objs.size) sL := by
   intro sL IL stL
   refine compLoop_go (fun n s' => ∃ i ys H', Inv X' [] (List.replicate h none ++ σ) H' s' ∧ tn i s'.heap ∧ (∀ b ∈ fp, H' b = none) ∧ W i n ys H') ?_ m0 ⟨0, [], _, IL, stL, fun b hb => (f3 b hb).1, w0⟩
   rintro n s5 ⟨i, ys, H5, I5, st5, fr5, w5⟩
   obtain ⟨hDy, hh⟩ := turn i n ys H5 w5
   have eP : X'.prog = X.prog := by rw [← hX]; rfl
   have eW : X'.w = X.w := by rw [← hX]; rfl
   have eK : X'.K = X.K := by rw [← hX]; rfl
   have eE : X'.xe = fun _ _ => False := by rw [← hX]; rfl
   rcases hh with ⟨stop, qn⟩ | ⟨go, step⟩
   · have := T.done X' eP eW eK hcX i [] s5 _ H5 (fun _ _ => False) I5 (fpX fr5 rfl) st5 stop
     rw [hA] at this
     refine thn this fun r s6 ⟨hr, I6⟩ => ?_
     subst hr
     obtain ⟨m6, hm6, _⟩ := id I6.loc
     refine ⟨m6, ?_, fun h7 hs7 => ?_⟩
     · rw [← hX] at hm6; exact hm6
     · rw [← hX] at I6
       exact ⟨.ref s2.heap.objs.size, H5, comp_end I3 S f3 I6 hs7, rfl, qn⟩
   · have := T.item X' eP eW eK hcX i [] s5 _ H5 (fun _ _ => False) I5 (fpX fr5 rfl) st5 go
     rw [hA] at this
     refine thn this fun r s6 ⟨u, hr, h6⟩ => ?_
     subst hr
     refine thn h6 fun _ s7 ⟨x, H7, I7, r7, y7, st7, fr7⟩ => ?_
     have I7' := I7.pinned (fpX fr7 rfl) (T.obj _ _ st7)
     have back : ∀ {σ' : St} {H' : Hp} {s' : Shared}, Inv X' ([] ++ pinsAt fp s7.heap) σ' H' s' → σ'.length = (List.replicate h none ++ σ : St).length → σ'.drop h = (List.replicate h none ++ σ : St).drop h →
         Inv X' [] (List.replicate h none ++ σ) H' s' ∧ tn (i + 1) s'.heap ∧ ∀ b ∈ fp, H' b = none := by
       intro σ' H' s' I' hl hd
       refine ⟨I'.unpinned.weak hl.symm fun j v e => ?_, T.keep _ _ _ st7 fun b hb o e => ?_, fun b hb => ?_⟩
       · by_cases hj : j < h
         · rw [List.getElem?_append_left (by simpa using hj), List.getElem?_replicate, if_pos hj] at e
           cases e
         · have e1 : (σ'.drop h)[j - h]? = σ'[j]? := by rw [List.getElem?_drop]; congr 1; omega
           have e2 : ((List.replicate h none ++ σ : St).drop h)[j - h]? = (List.replicate h none ++ σ : St)[j]? := by rw [List.getElem?_drop]; congr 1; omega
           rw [← e1, hd, e2]; exact e
       · exact (I'.pin (b, o) (List.mem_append_right _ (List.mem_append_right _ (mem_pinsAt hb e)))).1
       · obtain ⟨o, e, _⟩ := T.obj _ _ st7 b hb
         exact (I'.pin (b, o) (List.mem_append_right _ (List.mem_append_right _ (mem_pinsAt hb e)))).2.1
     have hg' := hg s3.heap.objs.size s3 (upd H2 s2.heap.objs.size (.lst [])) fp
     have ht' := ht s3.heap.objs.size s3 (upd H2 s2.heap.objs.size (.lst [])) fp
     have he' := he s3.heap.objs.size s3 (upd H2 s2.heap.objs.size (.lst [])) fp
     rw [hX] at hg' ht' he'
     have hl0 : h ≤ (List.replicate h none ++ σ : St).length := by simp
     have a1 := hg' _ s7 _ H7 x u _ I7' r7 (ho x _ H7 _ hl0 (step x H7 y7))
     rw [hA, eP, eW, eE] at a1
     refine thn a1 fun _ s8 ⟨σ8, H8, I8, q8, l8, d8⟩ => ?_
     have a2 := ht' _ s8 σ8 H8 _ I8 q8
     rw [hA, eP, eW, eE] at a2
     refine thn a2 fun c s9 ⟨H9, I9, q9⟩ => ?_
     cases c with
     | false =>
       obtain ⟨m', hm', w'⟩ := q9
       obtain ⟨b1, b2, b3⟩ := back I9 l8 d8
       exact ⟨m', hm', i + 1, ys, H9, b1, b2, b3, w'⟩
     | true =>
       have a3 := he' _ s9 σ8 H9 _ I9 q9
       rw [hA, eP, eW, eE] at a3
       refine thn a3 fun yv s10 ⟨y, H10, I10, r10, hD10, hz10, m', hm', w'⟩ => ?_
       have a4 := mt_append (X := X') _ s10 σ8 H10 (.ref s2.heap.objs.size) [y] (.ref s2.heap.objs.size) [yv] (fun _ Hz => Hz = upd H10 s2.heap.objs.size (.lst (ys ++ [y]))) I10 rfl (.cons r10 .nil) ⟨_, ys, y, rfl, rfl, hD10, hz10, rfl⟩
       rw [hA, eP, eW, eE] at a4
       refine thn a4 fun _ s11 ⟨_, H11, I11, _, e11⟩ => ?_
       subst e11
       obtain ⟨b1, b2, b3⟩ := back I11 l8 d8
       exact ⟨m', hm', i + 1, ys ++ [y], _, b1, b2, b3, w'⟩
 have fin := codeAny_compStart_list (prog := X.prog) (w := X.w) (A := X.A) (R := compPost (model X.prog X.w) X.A X.xe none (EP X pins σ Q) (.ref s2.heap.objs.size) s3.heap.objs.size) (elt := elt) (target := tg) (iter := iter) (ifs := ifs) (rest := []) (scope := scope) (pos := pos) (it := .ref it) (acc := .ref s2.heap.objs.size) (env := X'.env)
   (loop _ I4 st4) (T.self _ 0 _ _ _ st4 (loop _ I4 st4))
 have hE : X'.env = compEnvC scope (cellsFrom (s3.heap.objs.size + 1) scope.names (clOf scope.names X.env)) s3.heap.objs.size X.env := by rw [← hX]; rfl
 rw [hE] at fin
 exact fin
theorem ps_setComp {X : Cx} {elt tg iter : Expr} {ifs : List Expr} {scope : Scope} {pos py spos : Pos} {wi : TI} {g : TG} {tf : TT} {te : TE} {N' : List Str} {n0 : Nat} {x0 : Str} (hN0 : X.N.Nodup) (hi0 : X.N[n0]? = some x0) (hx0 : X.env.scope.names.lookup x0 = some .local) (hsw : swapsWith (.ListComp elt [⟨tg, iter, ifs, 0⟩] scope pos) (some (.Name x0 py)) spos.line X.env = pure true) (h : Nat) (S : ScopeOk h N' X.N scope X.env.scope) (hc : X.calm = true) (hi : PI X tg iter wi)
   (hg : ∀ C s H ex, PG (compCx X scope N' C s H ex) tg g) (ho : OwnG h g) (ht : ∀ C s H ex, PF (compCx X scope N' C s H ex) ifs tf) (he : ∀ C s H ex, PE (compCx X scope N' C s H ex) elt te)
   (hs : ∀ x, foldedSetIterable iter X.env x = pure x := by intro _; rfl) :
   PS X (.Assign [.Name x0 py] (.ListComp elt [⟨tg, iter, ifs, 0⟩] scope pos) spos) (tAsg (tComp h wi g tf te) (gName n0)) := by
 intro pins s σ H DD I hq
 rw [exec_Assign_Name_used _ _ _ _ hsw]
 refine wpAny_bind (wpAny_standAt (wpAny_bind ?_))
 show wpAny _ X.A (do let _ ← comprehension (.ListComp elt [⟨tg, iter, ifs, 0⟩] scope pos) scope X.env _ (newList []) false (eval iter X.env) (some (assign (.Name x0 py) X.env))) _ _ s
 refine wpAny_bind (wpAny_mono (wpAny_comprehension_free (use := some (assign (.Name x0 py) X.env)) (Q := fun _ s' => SP X pins DD .next s') rfl hs (closure_ok (env := X.env) fun p hp hk => I.ok.has p.1 (S.free p hp hk).2) S.kind S.loc ?_) (fun _ s' hq => wpAny_pure (wpAny_pure hq)) fun _ _ e => e)
 refine thn (hi pins s σ H _ I hq) fun v s1 h1 => thn h1 fun itv s2 h2 => ?_
 obtain ⟨it, fp, tn, J, H2, rfl, I2, T, st2, f2, hq⟩ := h2
 refine wpAny_newObj_type ?_ (by show 0 ≤ sizeLine; exact Nat.zero_le _)
 have hD : H2 s2.heap.objs.size = none := I2.hok.fresh (Nat.le_refl _)
 have I3 : Inv X pins σ (upd H2 s2.heap.objs.size (.lst [])) { s2 with heap := s2.heap.push { cls := .type "list", data := .seq ([] : List Value).toArray }, toks := s2.toks } := I2.lnew (t' := s2.toks) .nil (Nat.zero_le _)
 generalize hs3 : ({ s2 with heap := s2.heap.push { cls := .type "list", data := .seq ([] : List Value).toArray }, toks := s2.toks } : Shared) = s3 at I3
 have hs3' : ({ s2 with heap := s2.heap.push { cls := .type "list", data := .seq ([] : List Value).toArray } } : Shared) = s3 := hs3
 obtain ⟨W, ⟨m0, w0⟩, turn⟩ := hq s2.heap.objs.size hD
 have olt : ∀ b ∈ fp, b < s2.heap.objs.size := fun b hb => by
   obtain ⟨o, e, _⟩ := T.obj _ _ st2 b hb
   exact Heap.lt_size e
 have hsz : s3.heap.objs.size = s2.heap.objs.size + 1 := by rw [← hs3]; exact Heap.size_push ..
 have k23 : ∀ b o, s2.heap.get? b = some o → s3.heap.get? b = some o := fun b o e => by rw [← hs3]; exact Heap.get?_push_of_some _ e
 have f3 : ∀ b ∈ fp, FpOk X pins (upd H2 s2.heap.objs.size (.lst [])) b := fun b hb => ⟨by rw [upd_ne (Nat.ne_of_lt (olt b hb))]; exact (f2 b hb).1, (f2 b hb).2⟩
 have lt3 : ∀ b ∈ fp, b < s3.heap.objs.size := fun b hb => by rw [hsz]; exact Nat.lt_succ_of_lt (olt b hb)
 refine new_env_cl fun h4 hn4 k34 cs4 => ?_
 have I4 := comp_start (h' := h4) (tk := s3.toks) I3 S f3 lt3 hn4 k34 cs4
 have st4 : tn 0 h4 := T.keep _ _ _ st2 fun b hb o e => k34 b o (k23 b o e)
 generalize hX : compCx X scope N' s3.heap.objs.size s3 (upd H2 s2.heap.objs.size (.lst [])) fp = X' at I4
 have hA : X'.A = X.A := by rw [← hX]; rfl
 -- the iterator's objects, in the block
 have fpX : ∀ {H' : Hp} {pl : List (Addr × Obj)}, (∀ b ∈ fp, H' b = none) → pl = [] → ∀ b ∈ fp, FpOk X' pl H' b := fun {H' pl} hn0 hpl b hb => by
   subst hpl
   obtain ⟨q0, q1, q2, q3, q4, q5⟩ := f3 b hb
   subst hX
   refine ⟨hn0 b hb, Nat.ne_of_lt (lt3 b hb), fun z => ?_, .inl hb, fun x c e => (comp_cells I3 S x c e).elim (q4 x c) fun z w => Nat.lt_irrefl _ (Nat.lt_of_lt_of_le (lt3 b hb) (Nat.le_of_succ_le (w ▸ z.2))), fun p hp => absurd (show p ∈ ([] : List (Addr × Obj)) from hp) (by simp)⟩
   rcases List.mem_cons.mp (I3.stkSub b z) with z | z
   · exact q1 z
   · exact q2 z
 have hcX : X'.calm = true := by rw [← hX]; exact hc
 have hR : ∀ s' : Shared, (∃ (m : Nat) (i : Nat) (ys : List V) (H' : Hp), Inv X' [] (List.replicate h none ++ σ) H' s' ∧ tn i s'.heap ∧ (∀ b ∈ fp, H' b = none) ∧ W i m ys H') → True := fun _ _ => trivial
 have loop : ∀ (sL : Shared), (Inv X' [] (List.replicate h none ++ σ) (upd H2 s2.heap.objs.size (.lst [])) sL) → tn 0 sL.heap →
     codeAny (model X.prog X.w) X.A (.compLoop (.ListComp elt [⟨tg, iter, ifs, 0⟩] scope pos) 0 (.ref it) (.ref s2.heap.objs.size) X'.env)
       (compPost (model X.prog X.w) X.A X.xe (some (assign (.Name x0 py) X.env)) (fun _ s' => SP X pins DD .next s') (.ref s2.heap.objs.size) s3.heap.objs.size) sL := by
   intro sL IL stL
   refine compLoop_go (fun n s' => ∃ i ys H', Inv X' [] (List.replicate h none ++ σ) H' s' ∧ tn i s'.heap ∧ (∀ b ∈ fp, H' b = none) ∧ W i n ys H') ?_ m0 ⟨0, [], _, IL, stL, fun b hb => (f3 b hb).1, w0⟩
   rintro n s5 ⟨i, ys, H5, I5, st5, fr5, w5⟩
   obtain ⟨hDy, hh⟩ := turn i n ys H5 w5
   have eP : X'.prog = X.prog := by rw [← hX]; rfl
   have eW : X'.w = X.w := by rw [← hX]; rfl
   have eK : X'.K = X.K := by rw [← hX]; rfl
   have eE : X'.xe = fun _ _ => False := by rw [← hX]; rfl
   rcases hh with ⟨stop, qn⟩ | ⟨go, step⟩
   · have := T.done X' eP eW eK hcX i [] s5 _ H5 (fun _ _ => False) I5 (fpX fr5 rfl) st5 stop
     rw [hA] at this
     refine thn this fun r s6 ⟨hr, I6⟩ => ?_
     subst hr
     obtain ⟨m6, hm6, _⟩ := id I6.loc
     have hC6 : H5 s3.heap.objs.size = none := by rw [← hX] at I6; exact I6.free
     have hm6 : s6.heap.Ns s3.heap.objs.size m6 := by rw [← hX] at hm6; exact hm6
     have J6 : Inv X pins σ H5 s6 := by rw [← hX] at I6; exact comp_end I3 S f3 I6 (Heap.SameBut.refl ..)
     have neL : s3.heap.objs.size ≠ X.env.locals := Nat.ne_of_gt I3.lt
     have neC : ∀ x c, X.env.cells.lookup x = some c → c ≠ s3.heap.objs.size := fun x c e => by
       obtain ⟨v, z⟩ := I3.cell x c e
       exact Nat.ne_of_lt z.lt
     show wpAny (model X.prog X.w) X.A (assign (.Name x0 py) X.env (.ref s2.heap.objs.size)) _ _ s6
     refine wpAny_assign_Name (store_ok2 (v := .ref s2.heap.objs.size) J6 hN0 hi0 (.inl hx0) rfl (fun s7 I7 ⟨a, hsb, ha⟩ => ?_) (.inr hx0))
     have hac : s3.heap.objs.size ≠ a := by
       rcases ha with rfl | ha
       · exact neL
       · exact Ne.symm (neC _ _ ha)
     refine ⟨m6, hm6.sameBut hsb hac, fun h8 hs8 => ⟨_, H5, I7.turned (t' := s7.toks) (it := s3.heap.objs.size) (fun b o hb e => (hs8.2 b hb).trans e) hC6 neL (.inr I3.sz) neC (fun p hp => ?_), qn⟩⟩
     exact Nat.ne_of_lt (Heap.lt_size (I3.pin p hp).1)
   · have := T.item X' eP eW eK hcX i [] s5 _ H5 (fun _ _ => False) I5 (fpX fr5 rfl) st5 go
     rw [hA] at this
     refine thn this fun r s6 ⟨u, hr, h6⟩ => ?_
     subst hr
     refine thn h6 fun _ s7 ⟨x, H7, I7, r7, y7, st7, fr7⟩ => ?_
     have I7' := I7.pinned (fpX fr7 rfl) (T.obj _ _ st7)
     have back : ∀ {σ' : St} {H' : Hp} {s' : Shared}, Inv X' ([] ++ pinsAt fp s7.heap) σ' H' s' → σ'.length = (List.replicate h none ++ σ : St).length → σ'.drop h = (List.replicate h none ++ σ : St).drop h →
         Inv X' [] (List.replicate h none ++ σ) H' s' ∧ tn (i + 1) s'.heap ∧ ∀ b ∈ fp, H' b = none := by
       intro σ' H' s' I' hl hd
       refine ⟨I'.unpinned.weak hl.symm fun j v e => ?_, T.keep _ _ _ st7 fun b hb o e => ?_, fun b hb => ?_⟩
       · by_cases hj : j < h
         · rw [List.getElem?_append_left (by simpa using hj), List.getElem?_replicate, if_pos hj] at e
           cases e
         · have e1 : (σ'.drop h)[j - h]? = σ'[j]? := by rw [List.getElem?_drop]; congr 1; omega
           have e2 : ((List.replicate h none ++ σ : St).drop h)[j - h]? = (List.replicate h none ++ σ : St)[j]? := by rw [List.getElem?_drop]; congr 1; omega
           rw [← e1, hd, e2]; exact e
       · exact (I'.pin (b, o) (List.mem_append_right _ (List.mem_append_right _ (mem_pinsAt hb e)))).1
       · obtain ⟨o, e, _⟩ := T.obj _ _ st7 b hb
         exact (I'.pin (b, o) (List.mem_append_right _ (List.mem_append_right _ (mem_pinsAt hb e)))).2.1
     have hg' := hg s3.heap.objs.size s3 (upd H2 s2.heap.objs.size (.lst [])) fp
     have ht' := ht s3.heap.objs.size s3 (upd H2 s2.heap.objs.size (.lst [])) fp
     have he' := he s3.heap.objs.size s3 (upd H2 s2.heap.objs.size (.lst [])) fp
     rw [hX] at hg' ht' he'
     have hl0 : h ≤ (List.replicate h none ++ σ : St).length := by simp
     have a1 := hg' _ s7 _ H7 x u _ I7' r7 (ho x _ H7 _ hl0 (step x H7 y7))
     rw [hA, eP, eW, eE] at a1
     refine thn a1 fun _ s8 ⟨σ8, H8, I8, q8, l8, d8⟩ => ?_
     have a2 := ht' _ s8 σ8 H8 _ I8 q8
     rw [hA, eP, eW, eE] at a2
     refine thn a2 fun c s9 ⟨H9, I9, q9⟩ => ?_
     cases c with
     | false =>
       obtain ⟨m', hm', w'⟩ := q9
       obtain ⟨b1, b2, b3⟩ := back I9 l8 d8
       exact ⟨m', hm', i + 1, ys, H9, b1, b2, b3, w'⟩
     | true =>
       have a3 := he' _ s9 σ8 H9 _ I9 q9
       rw [hA, eP, eW, eE] at a3
       refine thn a3 fun yv s10 ⟨y, H10, I10, r10, hD10, hz10, m', hm', w'⟩ => ?_
       have a4 := mt_append (X := X') _ s10 σ8 H10 (.ref s2.heap.objs.size) [y] (.ref s2.heap.objs.size) [yv] (fun _ Hz => Hz = upd H10 s2.heap.objs.size (.lst (ys ++ [y]))) I10 rfl (.cons r10 .nil) ⟨_, ys, y, rfl, rfl, hD10, hz10, rfl⟩
       rw [hA, eP, eW, eE] at a4
       refine thn a4 fun _ s11 ⟨_, H11, I11, _, e11⟩ => ?_
       subst e11
       obtain ⟨b1, b2, b3⟩ := back I11 l8 d8
       exact ⟨m', hm', i + 1, ys ++ [y], _, b1, b2, b3, w'⟩
 have fin := codeAny_compStart_list (prog := X.prog) (w := X.w) (A := X.A) (R := compPost (model X.prog X.w) X.A X.xe (some (assign (.Name x0 py) X.env)) (fun _ s' => SP X pins DD .next s') (.ref s2.heap.objs.size) s3.heap.objs.size) (elt := elt) (target := tg) (iter := iter) (ifs := ifs) (rest := []) (scope := scope) (pos := pos) (it := .ref it) (acc := .ref s2.heap.objs.size) (env := X'.env)
   (loop _ I4 st4) (T.self _ 0 _ _ _ st4 (loop _ I4 st4))
 have hE : X'.env = compEnvC scope (cellsFrom (s3.heap.objs.size + 1) scope.names (clOf scope.names X.env)) s3.heap.objs.size X.env := by rw [← hX]; rfl
 rw [hE] at fin
 exact fin
end L3
namespace L3
open PySem PySem.Spec PySem.Calls
open PyProof.Rows hiding St
open L2
theorem ownTail_of {K : PySem.W.Frag} {h : Heap} {A1 : Addr} {c0 : Value} {dd od : Option Addr} {cd : ClassData} {sl osl : Array (Option Value)} {es : Array DictEntry} {ep : Nat} {oc : Value} {bmB tl : List Value} (x : K.In h)
   (hA : K.lookup A1 = some ⟨c0, dd, .cls cd, sl⟩) (hN : K.lookup cd.ns = some ⟨oc, od, .dict es ep, osl⟩) (sk : StrKeys es) (ni : nsFind es "__init__" = none) (T : OwnTail h bmB tl) : OwnTail h bmB (.ref A1 :: tl) :=
 .own (x _ _ hA) ⟨_, es, ep, x _ _ hN, rfl, sk, fun _ => rfl⟩ ni T
abbrev tupOf (us : List Value) : Obj := { cls := .type "tuple", data := .seq us.toArray }
abbrev excOf (C t : Addr) : Obj := { cls := .ref C, data := .fields #[.ref t, .none, .none, .none, .bool false, .none] }
section
variable {prog : Program} {w : World} {A : Around} {K : PySem.W.Frag} {C N f : Addr} {R : Result → Shared → Prop} {s : Shared} {us : List Value}
variable {nm q : Str} {bs bm bmB : List Value} {sn : List Str} {sub : List Value} {ab : Bool} {col : Option Bool} {dd : Option Addr} {k0 k1 k2 k3 k5 : Option Value} {B newId initId : String}
theorem make_x (X : K.In s.heap) (hC : K.lookup C = some (excClassObj nm q C N bs bm true sn sub ab col dd k0 k1 k2 k3 k5 newId)) (T : OwnTail s.heap bmB bm) (F : ExcBaseFacts B newId initId bmB)
   (hi : PySem.W.findIn K (.ref C) "__init__" = some (some (.ref f))) (hf : PySem.W.typeIn K (.ref f) = some (.type "function")) (hu : us.length ≤ sizeLine)
   (h : codeAny (model prog w) (A.under (.builtin "type.__call__" ⟨.ref C :: us, []⟩)) (.call (.ref f) ⟨.ref (s.heap.objs.size + 1) :: us, []⟩) (PySem.W.InitBack (s.heap.objs.size + 1) R)
     { s with heap := (s.heap.push (tupOf us)).push (excOf C s.heap.objs.size) }) :
   codeAny (model prog w) A (.call (.ref C) ⟨us, []⟩) R s := by
 obtain ⟨hh, g, d, tk, os⟩ := s
 have gC := X _ _ hC
 have t1 := tc_lookup
 have t2 := tc_bind (.ref C)
 have tT : (⟨hh, g, d, tk, os⟩ : Shared).TypeIs (.ref C) "type" := ⟨_, gC, rfl⟩
 refine codeAny_of_tree ?_
 show wpAny _ _ (callAny (.ref C) _) _ _ _
 repeat (any_goals (first | assumption | with_reducible refine wpAny_loadPart_at gC ?_ | wp_step))
 refine ⟨rfl, ?_⟩
 refine codeAny_call_builtin_at (Code.quiet_builtin _ (by decide +kernel)) entry_typeCall (wpAny_check_type_call_sub gC ?_)
 repeat (first | with_reducible refine wpAny_loadPart_at gC ?_ | with_reducible refine wpAny_madeBy_exc gC ?_ | wp_step)
 refine codeAny_call_builtin_code (Code.quiet_builtin _ F.quiet) (wpAny_check_new_subT F T gC (codeAny_exc_new_subT F T gC ?_ hu))
 show wpAny _ _ _ _ _ _
 have kp : ∀ b o, hh.get? b = some o → ((hh.push (tupOf us)).push (excOf C hh.objs.size)).get? b = some o := fun b o z => Heap.get?_push_of_some _ (Heap.get?_push_of_some _ z)
 have gC1 := kp _ _ gC
 have X1 := X.keeps kp
 have gx : ((hh.push (tupOf us)).push (excOf C hh.objs.size)).get? (hh.objs.size + 1) = some (excOf C hh.objs.size) := by heap_get
 have cC : (Value.ref C :: bm).contains (.ref C) = true := by simp
 have tx : PySem.W.Looks (model prog w) ((hh.push (tupOf us)).push (excOf C hh.objs.size)) (typeOf (.ref (hh.objs.size + 1))) (.ref C) := (PySem.W.Looks.ld gx).andThen .now
 have sx : PySem.W.Looks (model prog w) ((hh.push (tupOf us)).push (excOf C hh.objs.size)) (isSubtype (.ref C) (.ref C)) true := fun A1 Q1 E1 s1 k1 z1 => by
   obtain ⟨h1, g1, d1, u1, o1⟩ := s1
   refine wpAny_isSubtype_exc (k1 _ _ gC1) ?_
   rw [cC]
   exact z1
 have ix := PySem.W.looks_findIn (M := model prog w) X1 hi
 have bx := PySem.W.bind_fn (M := model prog w) X1 (.ref (hh.objs.size + 1)) hf
 have nx : PySem.W.Looks (model prog w) ((hh.push (tupOf us)).push (excOf C hh.objs.size)) (isInstance (.ref (hh.objs.size + 1)) (.ref C)) true := tx.andThen sx
 refine wpAny_bind (nx.here ?_)
 rw [if_neg (by decide)]
 unfold callSpecial? specialOf
 refine wpAny_bind (wpAny_holding (wpAny_bind (wpAny_bind (tx.here ?_))))
 refine ix.here ?_
 refine wpAny_holding (wpAny_bind (bx.here ?_))
 refine wpAny_bind (wpAny_call (codeAny_mono h fun r s' z => ?_))
 rcases r with e | (v | _ | _ | _)
 · exact z
 · exact z.elim
 · exact z.elim
 · exact z.elim
 · obtain ⟨rfl, z⟩ := z
   exact wpAny_pure (wpAny_pure z)
end
end L3
namespace L3
open PySem PySem.Spec PySem.Calls Builtin Builtin.ObjectAttr
open PyProof.Rows hiding St
open L2
structure XCls (K : PySem.W.Frag) (C : Addr) (f : Str) : Prop where
 cls : ∃ cd, PySem.W.clsIn K C = some cd ∧ cd.hasDict = true ∧ cd.mro.isEmpty = false ∧ cd.mro.contains (.type "object") = true ∧ ∀ v, refuseLoop v "__setattr__" cd.mro = pure ()
 sa : PySem.W.findIn K (.ref C) "__setattr__" = some (some (.builtin "object.__setattr__"))
 no : PySem.W.findIn K (.ref C) f = some none
section
variable {prog : Program} {w : World} {A : Around} {E : Value → Shared → Prop} {K : PySem.W.Frag} {C x : Addr} {s : Shared} {f : Str} {v : Value} {o : Obj} {vs : Array Value} {Q : Unit → Shared → Prop} {R : Result → Shared → Prop}
theorem osa_x {tk : Tok} (X : K.In s.heap) (c : XCls K C f) (hx : s.heap.get? x = some o) (hc : o.cls = .ref C)
   (h : wpAny (model prog w) A.in1 (storeInOwnDict (.ref x) (.ref C) (.str f tk) f v false)
     (fun fin s' => match fin with | .done z => R (.ok z) s' | .again c' => c'.quiet = true ∧ codeAny (model prog w) A c' R s') (fun e s' => R (.error e) s') s) :
   codeAny (model prog w) A (.call (.builtin "object.__setattr__") ⟨[.ref x, .str f tk, v], []⟩) R s := by
 obtain ⟨⟨cd, c1, c2, c3, c4, c5⟩, sa, no⟩ := c
 have S := PySem.F.store_object
 have ty : PySem.W.Looks (model prog w) s.heap (typeOf (.ref x)) (.ref C) := by
   obtain ⟨oc, od, dt, sl⟩ := o
   cases hc
   exact (PySem.W.Looks.ld hx).andThen .now
 have sb : PySem.W.Looks (model prog w) s.heap (isInstance (.ref x) (.type "object")) true := ty.andThen (PySem.W.looks_mroIn X (by unfold PySem.W.mroIn; rw [c1, Option.bind_some, if_neg (by rw [c3]; decide), c4]))
 refine codeAny_call_builtin S.slot.plain S.entry (@PySem.W.check_slot (model prog w) _ _ s "object.__setattr__" "object" "__setattr__" (.ref x) [.str f tk, v] [] _ S.kind S.split sb (S.args (.ref x) (.str f tk) v) ?_)
 have mr : PySem.W.Looks (model prog w) s.heap (mroOf (.ref C)) cd.mro := (PySem.W.looks_clsIn X c1).andThen .now
 rw [PySem.W.osa_eq, refuse_eq]
 refine wpAny_bind (wpAny_bind (ty.here (wpAny_bind (mr.here ?_))))
 rw [c5]
 refine wpAny_pure (wpAny_bind (ty.here (wpAny_bind ((PySem.W.looks_findIn X no).here (wpAny_bind (wpAny_pure ?_))))))
 exact h
theorem set_x (X : K.In s.heap) (c : XCls K C f) (hx : s.heap.get? x = some o) (hc : o.cls = .ref C)
   (h : wpAny (model prog w) A.in1 (storeInOwnDict (.ref x) (.ref C) (.str f s.toks) f v false) (fun fin s' => match fin with | .done (.ret _) => Q () s' | _ => False) E { s with toks := s.toks + 1 }) :
   wpAny (model prog w) A (setAttr (.ref x) f v) Q E s := by
 have ty : PySem.W.Looks (model prog w) s.heap (typeOf (.ref x)) (.ref C) := by
   obtain ⟨oc, od, dt, sl⟩ := o
   cases hc
   exact (PySem.W.Looks.ld hx).andThen .now
 unfold setAttr callSpecial? specialOf
 refine wpAny_bind (wpAny_mkText (wpAny_bind (wpAny_bind (wpAny_bind (PySem.W.Looks.here (s := { s with toks := s.toks + 1 }) ty ?_)))))
 refine PySem.W.Looks.here (s := { s with toks := s.toks + 1 }) (PySem.W.looks_findIn X c.sa) ?_
 refine wpAny_holding ?_
 rw [PySem.F.store_object.slot.bind]
 refine wpAny_bind (wpAny_pure (wpAny_bind (wpAny_call (osa_x (s := { s with toks := s.toks + 1 }) X c hx hc (wpAny_mono h (fun fin s' z => ?_) fun e s' z => z)))))
 rcases fin with (_ | _ | _ | u) | c'
 · exact z.elim
 · exact z.elim
 · exact z.elim
 · exact wpAny_pure (wpAny_pure z)
 · exact z.elim
theorem set_x1 (X : K.In s.heap) (c : XCls K C f) (hx : s.heap.get? x = some o) (hc : o.cls = .ref C) (hd : o.data = .fields vs) (hn : o.dict = none)
   (h : ∀ h' d tk, h'.get? x = some { o with dict := some d } → h'.Ns1 d (fun y => if y = f then some v else none) → d = s.heap.objs.size → (∀ b u, b ≠ x → s.heap.get? b = some u → h'.get? b = some u) → Q () { s with heap := h', toks := tk }) :
   wpAny (model prog w) A (setAttr (.ref x) f v) Q E s := by
 refine set_x X c hx hc ?_
 obtain ⟨⟨cd, c1, c2, c3, c4, c5⟩, sa, no⟩ := c
 obtain ⟨hh, g, d, tk, os⟩ := s
 obtain ⟨oc, od, dt, sl⟩ := o
 cases hc
 cases hd
 cases hn
 have gx : (hh.push PySem.W.emptyDict).get? x = some ⟨.ref C, none, .fields vs, sl⟩ := Heap.get?_push_of_some _ hx
 have nx : x ≠ hh.objs.size := Nat.ne_of_lt (Heap.lt_size hx)
 unfold storeInOwnDict ownDictForStores instanceDict
 refine wpAny_bind (wpAny_pure (wpAny_bind (wpAny_bind (wpAny_loadPart hx (wpAny_bind (PySem.W.Looks.here (s := ⟨hh, g, d, tk + 1, os⟩) (PySem.W.looks_clsIn X c1) ?_))))))
 rw [c2]
 refine wpAny_bind (wpAny_alloc ?_)
 refine wpAny_bind (wpAny_update gx ?_)
 refine wpAny_pure ?_
 have g2 : ((hh.push PySem.W.emptyDict).update x fun o => { cls := o.cls, dict := some hh.objs.size, data := o.data, slots := o.slots }).get? hh.objs.size = some PySem.W.emptyDict := (Heap.get?_update_other _ _ nx).trans (Heap.get?_push_at rfl rfl)
 have g3 : ((hh.push PySem.W.emptyDict).update x fun o => { cls := o.cls, dict := some hh.objs.size, data := o.data, slots := o.slots }).get? x = some ⟨.ref C, some hh.objs.size, .fields vs, sl⟩ := Heap.get?_update_self _ gx rfl
 have n2 : ((hh.push PySem.W.emptyDict).update x fun o => { cls := o.cls, dict := some hh.objs.size, data := o.data, slots := o.slots }).Ns hh.objs.size (fun _ => none) := ⟨_, #[], _, g2, rfl, fun e he => absurd he (by simp), fun _ => rfl⟩
 show wpAny _ _ (storeInDict hh.objs.size (.str f tk) f v) _ _ _
 unfold storeInDict newKeyGuard
 refine wpAny_bind (wpAny_pure (wpAny_bind (wpAny_nsSet1 (Heap.Ns1.of_empty n2) fun h' m1 sb => ?_)))
 obtain ⟨oD, eD, pD, hoD, hdD, hcD⟩ := m1.count (Within.cons f v Within.nil)
 refine wpAny_bind (wpAny_lookBehind hoD (by rw [hdD]; exact pastItsLine_dict (Nat.le_trans hcD (by rw [List.length_cons, List.length_nil, sizeLine_eq]; omega))) (wpAny_pure ?_))
 refine h h' hh.objs.size _ ((sb.2 x nx).trans g3) m1 rfl fun b u nb hb => ?_
 exact (sb.2 b (Nat.ne_of_lt (Heap.lt_size hb))).trans ((Heap.get?_update_other _ _ (Ne.symm nb)).trans (Heap.get?_push_of_some _ hb))
theorem set_x2 {dx : Addr} {mA : Str → Option Value} {ns : List Str} (X : K.In s.heap) (c : XCls K C f) (hx : s.heap.get? x = some o) (hc : o.cls = .ref C) (hd : o.data = .fields vs) (hn : o.dict = some dx) (m : s.heap.Ns1 dx mA) (hw : Within mA ns) (hz : ns.length ≤ 1000)
   (h : ∀ h' tk, h'.Ns1 dx (fun y => if y = f then some v else mA y) → (∀ b u, b ≠ dx → s.heap.get? b = some u → h'.get? b = some u) → Q () { s with heap := h', toks := tk }) :
   wpAny (model prog w) A (setAttr (.ref x) f v) Q E s := by
 refine set_x X c hx hc ?_
 obtain ⟨⟨cd, c1, c2, c3, c4, c5⟩, sa, no⟩ := c
 obtain ⟨hh, g, d, tk, os⟩ := s
 obtain ⟨oc, od, dt, sl⟩ := o
 cases hc
 cases hd
 cases hn
 unfold storeInOwnDict ownDictForStores instanceDict
 refine wpAny_bind (wpAny_pure (wpAny_bind (wpAny_bind (wpAny_loadPart hx (wpAny_bind (PySem.W.Looks.here (s := ⟨hh, g, d, tk + 1, os⟩) (PySem.W.looks_clsIn X c1) ?_))))))
 rw [c2]
 refine wpAny_pure (a := some dx) ?_
 show wpAny _ _ (storeInDict dx (.str f tk) f v) _ _ _
 unfold storeInDict newKeyGuard
 refine wpAny_bind (wpAny_pure (wpAny_bind (wpAny_nsSet1 m fun h' m1 sb => ?_)))
 obtain ⟨oD, eD, pD, hoD, hdD, hcD⟩ := m1.count (Within.cons f v hw)
 refine wpAny_bind (wpAny_lookBehind hoD (by rw [hdD]; exact pastItsLine_dict (Nat.le_trans hcD (by rw [List.length_cons, sizeLine_eq]; omega))) (wpAny_pure ?_))
 exact h h' _ m1 fun b u nb hb => (sb.2 b nb).trans hb
end
end L3
namespace L3
open PySem PySem.Spec PySem.Calls
open PyProof.Rows hiding St
open L2
abbrev excAt (C t : Addr) (dx : Option Addr) : Obj := { cls := .ref C, dict := dx, data := .fields #[.ref t, .none, .none, .none, .bool false, .none] }
def XO (x C : Addr) (dx : Option Addr) : HO := .ext fun h => ∃ t : Addr, h.get? x = some (excAt C t dx)
def MutX : Option HO → Prop
 | some (.ext _) => True
 | some (.xd _) => True
 | _ => False
section
variable {X : Cx} {pins : List (Addr × Obj)} {σ : St} {H H' : Hp} {s : Shared} {h' : Heap}
theorem Inv.chg {t' : Nat} (I : Inv X pins σ H s) (S : Addr → Prop) (hS : ∀ b, S b → (H b = none ∧ s.heap.objs.size ≤ b) ∨ MutX (H b)) (k : ∀ b u, ¬ S b → s.heap.get? b = some u → h'.get? b = some u) (ex : ∀ b, S b → ∃ u, h'.get? b = some u)
   (ag : ∀ b, ¬ S b → H' b = H b) (new : ∀ b o, S b → H' b = some o → ObjOk X.prog X.w H' h' b o) : Inv X pins σ H' { s with heap := h', toks := t' } := by
 have nS : ∀ b u, H b = some u → ¬ MutX (some u) → ¬ S b := fun b u e n z => by
   rcases hS b z with q | q
   · rw [q.1] at e; cases e
   · rw [e] at q; exact n q
 have nF : ∀ b o, s.heap.get? b = some o → H b = none → ¬ S b := fun b o g n z => by
   rcases hS b z with q | q
   · exact absurd (Heap.lt_size g) (Nat.not_lt.mpr q.2)
   · rw [n] at q; exact q
 refine I.un ⟨fun b o g n _ _ => k b o (nF b o g n) g, fun b o g n _ _ => ⟨o.slots, k b o (nF b o g n) g⟩, fun b o g n _ => by rw [ag b (nF b o g n)]; exact n, fun b o g _ => ?_, fun b xs q => ?_, fun b o u q => ?_, fun b ps q => ?_⟩ fun b o q => ?_
 · by_cases z : S b
   · exact ex b z
   · exact ⟨o, k b o z g⟩
 · rw [ag b (nS b _ q fun z => z)]; exact q
 · rw [ag b (nS b _ q fun z => z)]; exact q
 · exact ⟨#[], by rw [ag b (nS b _ q fun z => z), Array.append_empty]; exact q⟩
 · by_cases z : S b
   · exact new b o z q
   · rw [ag b z] at q
     refine (I.hok b o q).stay (fun c u hc g => k c u ?_ g) (fun c r => ?_) fun c xs r => ?_
     · rcases hc with rfl | hc
       · exact z
       · exact nS c _ hc fun z => z
     · rw [ag c (nS c _ r fun z => z)]; exact r
     · rw [ag c (nS c _ r fun z => z)]; exact r
theorem xo_ok {x C t : Addr} {dx : Option Addr} (e : h'.get? x = some (excAt C t dx)) : ObjOk X.prog X.w H' h' x (XO x C dx) :=
 ⟨⟨t, e⟩, ⟨_, e⟩, fun h1 h2 ⟨u, g⟩ k => ⟨u, k _ g⟩⟩
theorem XO.at {x C : Addr} {dx : Option Addr} (I : Inv X pins σ H s) (e : H x = some (XO x C dx)) : ∃ t : Addr, s.heap.get? x = some (excAt C t dx) := (I.hok x _ e).1
def rSetX (K : PySem.W.Frag) (f : Str) (v y : V) (H : Hp) (Q : Hp → Prop) : Prop := ∃ x C, v = .ref x ∧ XCls K C f ∧
 ((H x = some (XO x C none) ∧ ∀ d, H d = none → d ≠ x → Q (upd (upd H d (.xd [(f, y)])) x (XO x C (some d)))) ∨
  ∃ d fs, H x = some (XO x C (some d)) ∧ H d = some (.xd fs) ∧ fs.length < 1000 ∧ Q (upd H d (.xd (putF f y fs))))
theorem setattr_x {A : Around} {E : Value → Shared → Prop} {f : Str} {v y : V} {u uv : Value} {Q : Unit → Shared → Prop} {Qh : Hp → Prop} (I : Inv X pins σ H s) (rv : RelV v uv) (ry : RelV y u) (h : rSetX X.K f v y H Qh)
   (q : ∀ s' H', Inv X pins σ H' s' → Qh H' → Q () s') : wpAny (model X.prog X.w) A (setAttr uv f u) Q E s := by
 obtain ⟨x, C, rfl, c, ⟨hx, hq⟩ | ⟨d, fs, hx, hd, hl, hq⟩⟩ := h
 · obtain rfl : uv = Value.ref x := rv
   obtain ⟨t, g⟩ := XO.at I hx
   refine set_x1 I.kIn c g rfl rfl rfl fun h' d tk g' m ed kp => ?_
   have nd : H d = none := I.hok.fresh (Nat.le_of_eq ed.symm)
   have dx : d ≠ x := fun w => by rw [w, hx] at nd; cases nd
   refine q _ _ ?_ (hq d nd dx)
   refine Inv.chg I (fun b => b = x ∨ b = d) (fun b hb => ?_) (fun b u nb g => kp b u (fun z => nb (.inl z)) g) (fun b hb => ?_) (fun b nb => ?_) fun b o hb e => ?_
   · rcases hb with rfl | rfl
     · right; rw [hx]; exact trivial
     · left; exact ⟨nd, Nat.le_of_eq ed.symm⟩
   · rcases hb with rfl | rfl
     · exact ⟨_, g'⟩
     · obtain ⟨o, _, _, e, _⟩ := m; exact ⟨o, e⟩
   · rw [upd_ne (fun z => nb (.inl z)), upd_ne (fun z => nb (.inr z))]
   · rcases hb with rfl | rfl
     · rw [upd_same] at e; cases e; exact xo_ok g'
     · rw [upd_ne dx, upd_same] at e
       cases e
       refine ⟨_, m, fun g => ?_⟩
       show RelO (List.lookup g [(f, y)]) (if g = f then some u else none)
       by_cases w : g = f
       · subst w; rw [List.lookup_cons_self, if_pos rfl]; exact ry
       · have hb : (g == f) = false := beq_eq_false_iff_ne.mpr w
         rw [List.lookup_cons, hb, if_neg w]
         exact trivial
 · obtain rfl : uv = Value.ref x := rv
   obtain ⟨t, g⟩ := XO.at I hx
   obtain ⟨mA, m, rl⟩ := I.hok d _ hd
   have wi : Within mA (fs.map (·.1)) := fun g hg => by
     have := rl g
     cases l : fs.lookup g with
     | none => rw [l] at this; cases w : mA g with
       | none => exact absurd w hg
       | some _ => rw [w] at this; exact this.elim
     | some v => exact List.mem_map.mpr ⟨(g, v), PySem.mem_of_lookup l, rfl⟩
   refine set_x2 I.kIn c g rfl rfl rfl m wi (by rw [List.length_map]; omega) fun h' tk m' kp => ?_
   have dx : d ≠ x := fun w => by rw [w, hx] at hd; cases hd
   refine q _ _ ?_ hq
   refine Inv.chg I (fun b => b = d) (fun b hb => ?_) (fun b u nb g => kp b u nb g) (fun b hb => ?_) (fun b nb => upd_ne nb) fun b o hb e => ?_
   · subst hb; right; rw [hd]; exact trivial
   · subst hb; obtain ⟨o, _, _, e, _⟩ := m'; exact ⟨o, e⟩
   · subst hb
     rw [upd_same] at e
     cases e
     refine ⟨_, m', fun g => ?_⟩
     show RelO ((putF f y fs).lookup g) (if g = f then some u else mA g)
     rw [lookup_putF]
     by_cases w : g = f
     · rw [if_pos w, if_pos w]; exact ry
     · rw [if_neg w, if_neg w]; exact rl g
def sFldX (K : PySem.W.Frag) (ta tv : TE) (f : Str) : TS := fun D σ H => tv σ H fun y H1 => ta σ H1 fun v H2 => rSetX K f v y H2 fun H3 => D.nx σ H3
theorem ps_fldx {o value : Expr} {f : Str} {pos pos' : Pos} {ta tv : TE} (ha : PE X o ta) (hv : PE X value tv) (hs : swapsWith value (some (.Attribute o f pos')) pos.line X.env = pure false) : PS X (.Assign [.Attribute o f pos'] value pos) (sFldX X.K ta tv f) := by
 intro pins s σ H D I h
 refine plainObj_wpAny_Assign_Attribute (thn (hv pins s σ H _ I h) fun u s1 ⟨y, H1, I1, ry, q⟩ => thn (ha pins s1 σ H1 _ I1 q) fun ov s2 ⟨x, H2, I2, rx, q2⟩ => ?_) hs
 exact setattr_x I2 rx ry q2 fun s3 H3 I3 q3 => ⟨σ, _, I3, q3⟩
end
end L3
namespace L3
open PySem PySem.Spec PySem.Calls
open PyProof.Rows hiding St
open L2
def spInit (K : PySem.W.Frag) (ns : List Str) : Sp := fun vs H Q _ => ∃ x C ys, vs = .ref x :: ys ∧ ys.length = ns.length ∧ (∀ n ∈ ns, XCls K C n) ∧ H x = some (XO x C none) ∧ ∀ d, H d = none → d ≠ x → Q .non (upd (upd H d (.xd (ns.zip ys))) x (XO x C (some d)))
theorem spInit_len {K : PySem.W.Frag} {ns ps : List Str} (h : ps.length = ns.length + 1) : ∀ vs H Q E, spInit K ns vs H Q E → vs.length = ps.length := fun vs H Q E ⟨x, C, ys, e, l, _⟩ => by rw [e, List.length_cons, l, h]
structure XMk (K : PySem.W.Frag) (C f : Addr) (ns : List Str) : Prop where
 cls : ∃ (nm q : Str) (N : Addr) (bs bm bmB : List Value) (sn : List Str) (sub : List Value) (ab : Bool) (col : Option Bool) (dd : Option Addr) (k0 k1 k2 k3 k5 : Option Value) (B newId initId : String),
   K.lookup C = some (excClassObj nm q C N bs bm true sn sub ab col dd k0 k1 k2 k3 k5 newId) ∧ (∀ h : Heap, K.In h → OwnTail h bmB bm) ∧ ExcBaseFacts B newId initId bmB
 init : PySem.W.findIn K (.ref C) "__init__" = some (some (.ref f))
 fn : PySem.W.typeIn K (.ref f) = some (.type "function")
 kp : PySem.W.keepIn K (.ref C) = true
 fld : ∀ n ∈ ns, XCls K C n
section
variable {X : Cx} {pins : List (Addr × Obj)} {σ : St} {H : Hp} {s : Shared} {k : Nat} {C f : Addr} {fd : FuncData} {ps ns : List Str} {us : List Value} {vs : List V} {Q : Value → Shared → Prop}
theorem run_makex (M : XMk X.K C f ns) (F : FnOk X.prog X.w X.K X.mg X.base CX0 k f fd ps (spInit X.K ns)) (hr : Room (k + 1) X.A) (hb : Binds X.K fd ps []) (I : Inv X pins σ H s) (r : Vals vs us) (hl : vs.length = ns.length) (hz : ns.length ≤ 1000)
   (h : ∀ s' x d, Inv X pins σ (upd (upd H d (.xd (ns.zip vs))) x (XO x C (some d))) s' → s.heap.objs.size ≤ x → H x = none → H d = none → d ≠ x → Q (.ref x) s') : wpAny (model X.prog X.w) X.A (call (.ref C) us) Q X.xe s := by
 obtain ⟨nm, q, N, bs, bm, bmB, sn, sub, ab, col, dd, k0, k1, k2, k3, k5, B, newId, initId, hC, T, EB⟩ := M.cls
 have lu : us.length ≤ sizeLine := by rw [← r.length, hl, sizeLine_eq]; omega
 have kp : ∀ b o, s.heap.get? b = some o → ((s.heap.push (tupOf us)).push (excOf C s.heap.objs.size)).get? b = some o := fun b o z => Heap.get?_push_of_some _ (Heap.get?_push_of_some _ z)
 have gx : ((s.heap.push (tupOf us)).push (excOf C s.heap.objs.size)).get? (s.heap.objs.size + 1) = some (excOf C s.heap.objs.size) := by heap_get
 have nx : H (s.heap.objs.size + 1) = none := I.hok.fresh (Nat.le_succ _)
 have I2 : Inv X pins σ (upd H (s.heap.objs.size + 1) (XO (s.heap.objs.size + 1) C none)) { s with heap := (s.heap.push (tupOf us)).push (excOf C s.heap.objs.size), toks := s.toks } :=
   Inv.chg I (fun b => b = s.heap.objs.size + 1) (fun b hb => .inl (by subst hb; exact ⟨nx, Nat.le_succ _⟩)) (fun b u _ g => kp b u g) (fun b hb => by subst hb; exact ⟨_, gx⟩) (fun b nb => upd_ne nb) fun b o hb e => by
     subst hb
     rw [upd_same] at e
     cases e
     exact xo_ok gx
 have r2 : Vals (V.ref (s.heap.objs.size + 1) :: vs) (Value.ref (s.heap.objs.size + 1) :: us) := .cons rfl r
 have sp : spInit X.K ns (V.ref (s.heap.objs.size + 1) :: vs) (upd H (s.heap.objs.size + 1) (XO (s.heap.objs.size + 1) C none)) (fun v H2 => v = .non ∧ ∃ d, H d = none ∧ d ≠ s.heap.objs.size + 1 ∧ H2 = upd (upd H d (.xd (ns.zip vs))) (s.heap.objs.size + 1) (XO (s.heap.objs.size + 1) C (some d))) E0 :=
   ⟨_, C, vs, rfl, hl, M.fld, upd_same, fun d hd dx => ⟨rfl, d, by rw [upd_ne dx] at hd; exact hd, dx, by
     funext b
     unfold upd
     by_cases e1 : b = s.heap.objs.size + 1
     · rw [if_pos e1, if_pos e1]
     · rw [if_neg e1, if_neg e1, if_neg e1]⟩⟩
 have hl2 : (Value.ref (s.heap.objs.size + 1) :: us).length = ps.length := by rw [← r2.length]; exact F.len _ _ _ _ sp
 refine wpAny_call (make_x I.kIn hC (T _ I.kIn) EB M.init M.fn lu (codeAny_mono (F.run _ X.stack _ _ ⟨Value.ref (s.heap.objs.size + 1) :: us, []⟩ (Value.ref (s.heap.objs.size + 1) :: us) _ _ E0 (hr.make C us []) (I2.env0.make C us []) ?_ r2 sp) fun r s' hq => ?_))
 · have := hb _ (Value.ref (s.heap.objs.size + 1) :: us) I2.kIn (by rw [List.append_nil]; exact hl2)
   rwa [List.append_nil] at this
 · cases r with
   | error e => exact hq.elim
   | ok fl =>
     cases fl with
     | ret u =>
       obtain ⟨v, H', I3, rv, ev, d, hd, dx, e2⟩ := I2.after hq
       subst ev e2
       exact ⟨rv, h s' _ d I3 (Nat.le_succ _) nx hd dx⟩
     | next => exact hq.elim
     | brk => exact hq.elim
     | cont => exact hq.elim
end
end L3
namespace L3
open PySem PySem.Spec PySem.Calls
open PyProof.Rows hiding St
open L2
section
variable {X : Cx} {pins : List (Addr × Obj)} {σ : St} {H : Hp} {s : Shared} {a : Addr}
def XR (a C dx : Addr) : HO := .ext fun h => ∃ o vs, h.get? a = some o ∧ o.cls = .ref C ∧ o.dict = some dx ∧ o.data = .fields vs
structure CatchC (K : PySem.W.Frag) (CL : Addr) : Prop where
 ty : PySem.W.typeIn K (.ref CL) = some (.type "type")
 cls : ∃ oc od cd sl, K.lookup CL = some ⟨oc, od, .cls cd, sl⟩
 base : PySem.W.mroIn K CL (.type "BaseException") = some true
end
end L3
namespace L3
open PySem PySem.Spec
open PyProof.Rows hiding St
open L2
mutual
inductive Is (K : PySem.W.Frag) (F : Addr → Prop) (H : Hp) : V → PyData → Prop
 | none : Is K F H .non .none
 | bool (b) : Is K F H (.bl b) (.bool b)
 | int (i) : Is K F H (.int i) (.int i)
 | str (x) : Is K F H (.str x) (.str x)
 | list {a xs ds} : F a → H a = some (.lst xs) → IsAll K F H xs ds → Is K F H (.ref a) (.list ds)
 | tuple {a xs ds} : SqT K H a xs → IsAll K F H xs ds → Is K F H (.ref a) (.tuple ds)
inductive IsAll (K : PySem.W.Frag) (F : Addr → Prop) (H : Hp) : List V → List PyData → Prop
 | nil : IsAll K F H [] []
 | cons {v vs d ds} : Is K F H v d → IsAll K F H vs ds → IsAll K F H (v :: vs) (d :: ds)
end
section
variable {K : PySem.W.Frag} {F F' : Addr → Prop} {H H' : Hp}
mutual
theorem Is.to (hL : ∀ a xs, F a → H a = some (.lst xs) → F' a ∧ H' a = some (.lst xs)) (hT : ∀ a xs, SqT K H a xs → SqT K H' a xs) : ∀ {v d}, Is K F H v d → Is K F' H' v d
 | _, _, .none => .none
 | _, _, .bool b => .bool b
 | _, _, .int i => .int i
 | _, _, .str x => .str x
 | _, _, .list f q r => .list (hL _ _ f q).1 (hL _ _ f q).2 (IsAll.to hL hT r)
 | _, _, .tuple q r => .tuple (hT _ _ q) (IsAll.to hL hT r)
theorem IsAll.to (hL : ∀ a xs, F a → H a = some (.lst xs) → F' a ∧ H' a = some (.lst xs)) (hT : ∀ a xs, SqT K H a xs → SqT K H' a xs) : ∀ {vs ds}, IsAll K F H vs ds → IsAll K F' H' vs ds
 | _, _, .nil => .nil
 | _, _, .cons r t => .cons (Is.to hL hT r) (IsAll.to hL hT t)
end
theorem IsAll.length : ∀ {vs ds}, IsAll K F H vs ds → vs.length = ds.length
 | _, _, .nil => rfl
 | _, _, .cons _ t => by rw [List.length_cons, List.length_cons, IsAll.length t]
theorem IsAll.get : ∀ {vs ds} {i : Nat} {d}, IsAll K F H vs ds → ds[i]? = some d → ∃ v, vs[i]? = some v ∧ Is K F H v d
 | _, _, _, _, .nil, e => by simp at e
 | _, _, 0, _, .cons r _, e => by simp at e; subst e; exact ⟨_, rfl, r⟩
 | _, _, i + 1, d, .cons _ t, e => by
   obtain ⟨v, h1, h2⟩ := IsAll.get (i := i) (d := d) t (by simpa using e)
   exact ⟨v, by simpa using h1, h2⟩
theorem IsAll.append : ∀ {vs ds ws es}, IsAll K F H vs ds → IsAll K F H ws es → IsAll K F H (vs ++ ws) (ds ++ es)
 | _, _, _, _, .nil, s => s
 | _, _, _, _, .cons r t, s => .cons r (IsAll.append t s)
theorem IsAll.snoc {vs ds v d} (h : IsAll K F H vs ds) (r : Is K F H v d) : IsAll K F H (vs ++ [v]) (ds ++ [d]) := h.append (.cons r .nil)
end
def SameB (M : Addr → Prop) (H H' : Hp) : Prop := ∀ a o, H a = some o → ¬ M a → H' a = some o
theorem SameB.refl (M : Addr → Prop) (H : Hp) : SameB M H H := fun _ _ h _ => h
theorem SameB.trans {M : Addr → Prop} {H H1 H2 : Hp} (a : SameB M H H1) (b : SameB M H1 H2) : SameB M H H2 := fun c o h n => b c o (a c o h n) n
theorem SameB.of {M : Addr → Prop} {H H' : Hp} (s : Same H H') : SameB M H H' := fun a o h _ => s a o h
theorem SameB.free {M : Addr → Prop} {H H' : Hp} (e : SameB M H H') {l : Addr} (hm : ¬ M l) (h : H' l = Option.none) : H l = Option.none := by
 cases q : H l with
 | none => rfl
 | some o => rw [e l o q hm] at h; cases h
def TupStay (H H' : Hp) : Prop := ∀ a u, (∃ xs, u = HO.tup xs ∨ ∃ o, u = HO.frz o (.tup xs)) → H a = some u → H' a = some u
theorem SqT.stay {K : PySem.W.Frag} {H H' : Hp} {a : Addr} {xs : List V} (e : TupStay H H') (h : SqT K H a xs) : SqT K H' a xs := by
 rcases h with (h | ⟨o, h⟩) | h
 · exact .inl (.inl (e _ _ ⟨xs, .inl rfl⟩ h))
 · exact .inl (.inr ⟨o, e _ _ ⟨xs, .inr ⟨o, rfl⟩⟩ h⟩)
 · exact .inr h
structure Ob where
 M : Addr → Prop
 P : Hp → Prop
 v : V
structure Ob.Ok (O : Ob) : Prop where
 loc : ∀ H H', (∀ a, O.M a → H' a = H a) → O.P H → O.P H'
 mutb : ∀ H a o, O.P H → H a = some o → O.M a → (∀ xs, o ≠ .tup xs) ∧ ∀ q u, o ≠ .frz q u
 here : ∀ H a, O.P H → O.M a → ∃ o, H a = some o
theorem Ob.Ok.grow {O : Ob} (ok : O.Ok) (H H' : Hp) (s : Same H H') (p : O.P H) : O.P H' := ok.loc H H' (fun a m => by
 obtain ⟨o, e⟩ := ok.here H a p m
 rw [e, s a o e]) p
def Ob.plus (O : Ob) (D : Addr) (u : HO) : Ob := ⟨fun a => O.M a ∨ a = D, fun H => O.P H ∧ H D = some u, O.v⟩
theorem Ob.Ok.plus {O : Ob} (ok : O.Ok) (D : Addr) (xs : List V) : (O.plus D (.lst xs)).Ok :=
 ⟨fun H H' e p => ⟨ok.loc H H' (fun a m => e a (.inl m)) p.1, (e D (.inr rfl)).trans p.2⟩,
  fun H a o p e m => by
   rcases m with m | rfl
   · exact ok.mutb H a o p.1 e m
   · rw [p.2] at e; cases e; exact ⟨fun _ h => (by cases h), fun _ _ h => (by cases h)⟩,
  fun H a p m => by
   rcases m with m | rfl
   · exact ok.here H a p.1 m
   · exact ⟨_, p.2⟩⟩
structure Stp (O : Ob) (H H' : Hp) : Prop where
 s : SameB O.M H H'
 p : O.P H → O.P H'
 t : TupStay H H'
theorem Stp.refl (O : Ob) (H : Hp) : Stp O H H := ⟨.refl _ _, fun h => h, fun _ _ _ h => h⟩
theorem Stp.trans {O : Ob} {H H1 H2 : Hp} (a : Stp O H H1) (b : Stp O H1 H2) : Stp O H H2 := ⟨a.s.trans b.s, fun h => b.p (a.p h), fun c u hu h => b.t c u hu (a.t c u hu h)⟩
theorem Stp.same {O : Ob} (ok : O.Ok) {H H' : Hp} (s : Same H H') : Stp O H H' := ⟨.of s, ok.grow H H' s, fun a u _ h => s a u h⟩
theorem same_new {H : Hp} {p : Addr} (h : H p = none) (o : HO) : Same H (upd H p o) := fun b u q => by rw [upd_ne (ne_of_none q h)]; exact q
theorem Stp.new {O : Ob} (ok : O.Ok) {H : Hp} {p : Addr} (h : H p = none) (o : HO) : Stp O H (upd H p o) := .same ok (same_new h o)
section
variable {K : PySem.W.Frag} {O : Ob} {F F' : Addr → Prop} {H H' : Hp} {v : V} {d : PyData}
theorem Is.stp (s : Stp O H H') (hF : ∀ a, F a → F' a) (hM : ∀ a, F a → ¬ O.M a) (h : Is K F H v d) : Is K F' H' v d :=
 h.to (fun a xs f q => ⟨hF a f, s.s a _ q (hM a f)⟩) fun a xs q => SqT.stay (h := q) s.t
theorem IsAll.stp {vs : List V} {ds : List PyData} (s : Stp O H H') (hF : ∀ a, F a → F' a) (hM : ∀ a, F a → ¬ O.M a) (h : IsAll K F H vs ds) : IsAll K F' H' vs ds :=
 h.to (fun a xs f q => ⟨hF a f, s.s a _ q (hM a f)⟩) fun a xs q => SqT.stay (h := q) s.t
theorem Is.weak (h : Is K F H v d) (hF : ∀ a, F a → F' a) : Is K F' H v d := h.to (fun a xs f q => ⟨hF a f, q⟩) fun a xs q => q
theorem IsAll.weak {vs : List V} {ds : List PyData} (h : IsAll K F H vs ds) (hF : ∀ a, F a → F' a) : IsAll K F' H vs ds := h.to (fun a xs f q => ⟨hF a f, q⟩) fun a xs q => q
end
mutual
def flat : PyData → Bool
 | .none => true
 | .bool _ => true
 | .int _ => true
 | .str _ => true
 | .tuple ds => flats ds
 | _ => false
def flats : List PyData → Bool
 | [] => true
 | d :: ds => flat d && flats ds
end
mutual
theorem Is.flat {K : PySem.W.Frag} {F F' : Addr → Prop} {H H' : Hp} (t : TupStay H H') : ∀ {v d}, Is K F H v d → L3.flat d = true → Is K F' H' v d
 | _, _, .none, _ => .none
 | _, _, .bool b, _ => .bool b
 | _, _, .int i, _ => .int i
 | _, _, .str x, _ => .str x
 | _, _, .list _ _ _, h => by simp [L3.flat] at h
 | _, _, .tuple q r, h => .tuple (SqT.stay t q) (IsAll.flats t r (by simpa [L3.flat] using h))
theorem IsAll.flats {K : PySem.W.Frag} {F F' : Addr → Prop} {H H' : Hp} (t : TupStay H H') : ∀ {vs ds}, IsAll K F H vs ds → L3.flats ds = true → IsAll K F' H' vs ds
 | _, _, .nil, _ => .nil
 | _, _, .cons r s, h => by
   rw [L3.flats, Bool.and_eq_true] at h
   exact .cons (Is.flat t r h.1) (IsAll.flats t s h.2)
end
theorem TupStay.refl (H : Hp) : TupStay H H := fun _ _ _ h => h
section
variable {X : Cx} {pins : List (Addr × Obj)} {σ : St} {H : Hp} {s : Shared} {F : Addr → Prop}
mutual
theorem Is.reads (I : Inv X pins σ H s) : ∀ {v d} {u : Value}, Is X.K F H v d → RelV v u → ∃ as, Reads s.heap u d as
 | _, _, _, .none, r => by cases r; exact ⟨_, .none⟩
 | _, _, _, .bool b, r => by cases r; exact ⟨_, .bool b⟩
 | _, _, _, .int i, r => by obtain ⟨t, rfl⟩ := r; exact ⟨_, .int i t⟩
 | _, _, _, .str x, r => by obtain ⟨t, rfl⟩ := r; exact ⟨_, .str x t⟩
 | _, _, _, .list f q rs, r => by
   cases r
   obtain ⟨its, rv, ⟨o, n, e, c, _, dt⟩, _⟩ := I.list (.of q)
   obtain ⟨as, ra⟩ := IsAll.reads I rs rv
   exact ⟨_, .list e c dt (by simpa using ra)⟩
 | _, _, _, .tuple q rs, r => by
   cases r
   obtain ⟨its, rv, ⟨o, e, c, n, dt⟩, _⟩ := I.tuple q
   obtain ⟨as, ra⟩ := IsAll.reads I rs rv
   exact ⟨_, .tuple e c dt (by simpa using ra)⟩
theorem IsAll.reads (I : Inv X pins σ H s) : ∀ {vs ds} {us : List Value}, IsAll X.K F H vs ds → Vals vs us → ∃ as, ReadsAll s.heap us ds as
 | _, _, _, .nil, r => by cases r; exact ⟨_, .nil⟩
 | _, _, _, .cons h t, r => by
   cases r with
   | cons r1 r2 =>
     obtain ⟨as, ra⟩ := Is.reads I h r1
     obtain ⟨bs, rb⟩ := IsAll.reads I t r2
     exact ⟨_, .cons ra rb⟩
end
end
def IsS (K : PySem.W.Frag) (F : Addr → Prop) (H : Hp) (v : V) (n : Nat) : Prop := ∃ a xs, v = .ref a ∧ xs.length = n ∧ ((F a ∧ Rd H a (.lst xs)) ∨ ∀ H', SqL K H' a xs)
theorem IsS.to {K : PySem.W.Frag} {F F' : Addr → Prop} {H H' : Hp} {v : V} {n : Nat} (hL : ∀ a u, F a → H a = some u → F' a ∧ H' a = some u) (h : IsS K F H v n) : IsS K F' H' v n := by
 obtain ⟨a, xs, e, l, ⟨f, q | ⟨o, q⟩⟩ | q⟩ := h
 · exact ⟨a, xs, e, l, .inl ⟨(hL a _ f q).1, .inl (hL a _ f q).2⟩⟩
 · exact ⟨a, xs, e, l, .inl ⟨(hL a _ f q).1, .inr ⟨o, (hL a _ f q).2⟩⟩⟩
 · exact ⟨a, xs, e, l, .inr q⟩
def DkAt (H : Hp) (v : V) (a : Addr) (ks : List Str) : Prop := v = .ref a ∧ ∃ kvs, H a = some (.dK kvs) ∧ kvs.map (·.1) = ks.map Sum.inr
theorem DkAt.to {H H' : Hp} {v : V} {a : Addr} {ks : List Str} (h : DkAt H v a ks) (e : ∀ u, H a = some u → H' a = some u) : DkAt H' v a ks := let ⟨h1, kvs, h2, h3⟩ := h; ⟨h1, kvs, e _ h2, h3⟩
inductive R where
 | o (d : PyData)
 | n (ds : List PyData)
def R.d : R → PyData
 | .o d => d
 | .n ds => .list ds
structure Thg where
 R : PySem.W.Frag → (Addr → Prop) → (Addr → Prop) → Hp → V → Prop
 to : ∀ {K : PySem.W.Frag} {F F' W W' : Addr → Prop} {H H' : Hp} {v : V}, (∀ a u, F a → H a = some u → F' a ∧ H' a = some u) → (∀ a u, W a → H a = some u → W' a ∧ H' a = some u) → TupStay H H' → R K F W H v → R K F' W' H' v
inductive DV where
 | im (d : PyData)
 | own (ds : List PyData)
 | ob
 | scr (n : Nat)
 | dct (ks : List Str)
   | gen (f : Addr → List V → HO) (ds : List PyData)
   | rd (f : Addr → List V → HO) (ds : List PyData)
   | exc (C : Addr) (ns : List Str) (ds : List PyData)
   | thg (T : Thg)
   | thr (T : Thg)
abbrev DSt := List (Option DV)
abbrev DE := DSt → (R → Prop) → Prop
abbrev DT := DSt → (Bool → Prop) → Prop
abbrev DA := DSt → (List PyData → Prop) → Prop
def unM (O : Ob) : Addr → Prop := fun a => ¬ O.M a
def ExAt (F : Addr → Prop) (H : Hp) (v : V) (C : Addr) (ns : List Str) (xs : List V) : Prop := ∃ a dx, v = .ref a ∧ F a ∧ F dx ∧ H a = some (XR a C dx) ∧ H dx = some (.xd (ns.zip xs)) ∧ xs.length = ns.length
theorem ExAt.to {F F' : Addr → Prop} {H H' : Hp} {v : V} {C : Addr} {ns : List Str} {xs : List V} (hL : ∀ a u, F a → H a = some u → F' a ∧ H' a = some u) (h : ExAt F H v C ns xs) : ExAt F' H' v C ns xs := by
 obtain ⟨a, dx, e, f1, f2, q1, q2, l⟩ := h
 exact ⟨a, dx, e, (hL a _ f1 q1).1, (hL dx _ f2 q2).1, (hL a _ f1 q1).2, (hL dx _ f2 q2).2, l⟩
def SeenV (K : PySem.W.Frag) (O : Ob) (H : Hp) (v : V) : DV → Prop
 | .im d => Is K (unM O) H v d
 | .own ds => Is K (unM O) H v (.list ds)
 | .ob => v = O.v
 | .scr n => IsS K (unM O) H v n
 | .dct ks => ∃ a, ¬ O.M a ∧ DkAt H v a ks
 | .gen f ds => ∃ a xs, v = .ref a ∧ ¬ O.M a ∧ H a = some (f a xs) ∧ IsAll K (unM O) H xs ds
 | .rd f ds => ∃ a xs, v = .ref a ∧ ¬ O.M a ∧ H a = some (f a xs) ∧ IsAll K (unM O) H xs ds
 | .exc C ns ds => ∃ xs, ExAt (unM O) H v C ns xs ∧ IsAll K (unM O) H xs ds
 | .thg T => ∃ W : Addr → Prop, (∀ a, W a → ¬ O.M a ∧ ∃ o, H a = some o) ∧ T.R K (unM O) W H v
 | .thr T => ∃ W : Addr → Prop, (∀ a, W a → ¬ O.M a ∧ ∃ o, H a = some o) ∧ T.R K (unM O) W H v
structure Seen (K : PySem.W.Frag) (O : Ob) (H : Hp) (σ : St) (ρ : DSt) : Prop where
 ok : O.Ok
 p : O.P H
 at_ : ∀ (i : Nat) r, ρ[i]? = some (some r) → ∃ v, σ[i]? = some (some v) ∧ SeenV K O H v r
 len : ρ.length = σ.length
theorem SeenV.stp {K : PySem.W.Frag} {O : Ob} {H H' : Hp} {v : V} {r : DV} (s : Stp O H H') (h : SeenV K O H v r) : SeenV K O H' v r := by
 cases r with
 | im d => exact Is.stp s (fun _ f => f) (fun _ f => f) h
 | own ds => exact Is.stp s (fun _ f => f) (fun _ f => f) h
 | ob => exact h
 | scr n => exact IsS.to (fun a u f q => ⟨f, s.s a u q f⟩) h
 | dct ks => obtain ⟨a, n, h⟩ := h; exact ⟨a, n, h.to fun u q => s.s a u q n⟩
 | gen f ds => obtain ⟨a, xs, e, n, q, z⟩ := h; exact ⟨a, xs, e, n, s.s a _ q n, IsAll.stp s (fun _ f => f) (fun _ f => f) z⟩
 | rd f ds => obtain ⟨a, xs, e, n, q, z⟩ := h; exact ⟨a, xs, e, n, s.s a _ q n, IsAll.stp s (fun _ f => f) (fun _ f => f) z⟩
 | exc C ns ds => obtain ⟨xs, e, z⟩ := h; exact ⟨xs, e.to fun a u f q => ⟨f, s.s a u q f⟩, IsAll.stp s (fun _ f => f) (fun _ f => f) z⟩
 | thg T => obtain ⟨W, hw, z⟩ := h; exact ⟨W, fun a w => ⟨(hw a w).1, let ⟨o, e⟩ := (hw a w).2; ⟨o, s.s a o e (hw a w).1⟩⟩, T.to (fun a u f q => ⟨f, s.s a u q f⟩) (fun a u w q => ⟨w, s.s a u q (hw a w).1⟩) s.t z⟩
 | thr T => obtain ⟨W, hw, z⟩ := h; exact ⟨W, fun a w => ⟨(hw a w).1, let ⟨o, e⟩ := (hw a w).2; ⟨o, s.s a o e (hw a w).1⟩⟩, T.to (fun a u f q => ⟨f, s.s a u q f⟩) (fun a u w q => ⟨w, s.s a u q (hw a w).1⟩) s.t z⟩
theorem Seen.stp {K : PySem.W.Frag} {O : Ob} {H H' : Hp} {σ : St} {ρ : DSt} (S : Seen K O H σ ρ) (s : Stp O H H') : Seen K O H' σ ρ :=
 ⟨S.ok, s.p S.p, fun i r e => let ⟨v, h1, h2⟩ := S.at_ i r e; ⟨v, h1, h2.stp s⟩, S.len⟩
def Out (K : PySem.W.Frag) (O : Ob) (H H' : Hp) (v : V) : R → Prop
 | .o d => Is K (unM O) H' v d
 | .n ds => ∃ a xs, v = .ref a ∧ H a = none ∧ H' a = some (.lst xs) ∧ IsAll K (unM O) H' xs ds
theorem Out.is {K : PySem.W.Frag} {O : Ob} {H H' : Hp} {v : V} {r : R} (ok : O.Ok) (p : O.P H) (h : Out K O H H' v r) : Is K (unM O) H' v r.d := by
 cases r with
 | o d => exact h
 | n ds =>
   obtain ⟨a, xs, rfl, hn, e, q⟩ := h
   exact .list (fun m => by obtain ⟨o, z⟩ := ok.here H a p m; rw [hn] at z; cases z) e q
def ED (K : PySem.W.Frag) (O : Ob) (t : TE) (f : DE) : Prop :=
 ∀ (σ : St) (H : Hp) (ρ : DSt) (Q : VK) (Qd : R → Prop), Seen K O H σ ρ → f ρ Qd → (∀ v H' r, Stp O H H' → Out K O H H' v r → Qd r → Q v H') → t σ H Q
def TD (K : PySem.W.Frag) (O : Ob) (t : TT) (f : DT) : Prop :=
 ∀ (σ : St) (H : Hp) (ρ : DSt) (Q : Bool → Hp → Prop) (Qd : Bool → Prop), Seen K O H σ ρ → f ρ Qd → (∀ b H', Stp O H H' → Qd b → Q b H') → t σ H Q
def AD (K : PySem.W.Frag) (O : Ob) (t : TA) (f : DA) : Prop :=
 ∀ (σ : St) (H : Hp) (ρ : DSt) (Q : List V → Hp → Prop) (Qd : List PyData → Prop), Seen K O H σ ρ → f ρ Qd → (∀ vs H' ds, Stp O H H' → IsAll K (unM O) H' vs ds → Qd ds → Q vs H') → t σ H Q
section
variable {K : PySem.W.Frag} {O : Ob}
def cD (d : PyData) : DE := fun _ Q => Q (.o d)
theorem ed_int {i : Int} : ED K O (tC (.int i)) (cD (.int i)) := fun σ H ρ Q Qd S h k => k _ H (.o (.int i)) (.refl _ _) (Is.int i) h
theorem ed_str {x : Str} : ED K O (tC (.str x)) (cD (.str x)) := fun σ H ρ Q Qd S h k => k _ H (.o (.str x)) (.refl _ _) (Is.str x) h
theorem ed_bl {b : Bool} : ED K O (tC (.bl b)) (cD (.bool b)) := fun σ H ρ Q Qd S h k => k _ H (.o (.bool b)) (.refl _ _) (Is.bool b) h
def seeR : DV → Option PyData
 | .im d => some d
 | .own ds => some (.list ds)
 | .ob => none
 | .scr _ => none
 | .dct _ => none
 | .gen _ _ => none
 | .rd _ _ => none
 | .exc _ _ _ => none
 | .thg _ => none
 | .thr _ => none
def vD (i : Nat) : DE := fun ρ Q => ∃ r d, ρ[i]? = some (some r) ∧ seeR r = some d ∧ Q (.o d)
theorem ed_var {i : Nat} : ED K O (tVar i) (vD i) := fun σ H ρ Q Qd S h k => by
 obtain ⟨r, d, e, e2, h⟩ := h
 obtain ⟨v, hv, sv⟩ := S.at_ i r e
 refine ⟨v, hv, k _ H _ (.refl _ _) ?_ h⟩
 cases r with
 | im d' => cases e2; exact sv
 | own ds => cases e2; exact sv
 | ob => cases e2
 | scr n => cases e2
 | dct ks => cases e2
 | gen f ds => cases e2
 | rd f ds => cases e2
 | exc C ns ds => cases e2
 | thg T => cases e2
 | thr T => cases e2
def OpD (K : PySem.W.Frag) (O : Ob) (r : R2) (f : PyData → PyData → (R → Prop) → Prop) : Prop :=
 ∀ (H : Hp) (x y : V) (d e : PyData) (Q : VK) (Qd : R → Prop), O.Ok → O.P H → Is K (unM O) H x d → Is K (unM O) H y e → f d e Qd → (∀ v H' r, Stp O H H' → Out K O H H' v r → Qd r → Q v H') → r x y H Q
theorem Out.ahead {H H1 H2 : Hp} {v : V} {r : R} (ok : O.Ok) (p : O.P H) (s1 : Stp O H H1) (h : Out K O H1 H2 v r) : Out K O H H2 v r := by
 cases r with
 | o d => exact h
 | n ds =>
   obtain ⟨a, xs, rfl, hn, e, q⟩ := h
   have m : ¬ O.M a := fun m => by obtain ⟨o, z⟩ := ok.here H1 a (s1.p p) m; rw [hn] at z; cases z
   exact ⟨a, xs, rfl, s1.s.free m hn, e, q⟩
def opDE (f : PyData → PyData → (R → Prop) → Prop) (fa fb : DE) : DE := fun ρ Q => fa ρ fun a => fb ρ fun b => f a.d b.d Q
theorem ed_op {r : R2} {ta tb : TE} {f : PyData → PyData → (R → Prop) → Prop} {fa fb : DE} (hr : OpD K O r f) (ha : ED K O ta fa) (hb : ED K O tb fb) : ED K O (tOp r ta tb) (opDE f fa fb) := fun σ H ρ Q Qd S h k => by
 refine ha σ H ρ _ _ S h fun v H1 a s1 o1 h1 => ?_
 refine hb σ H1 ρ _ _ (S.stp s1) h1 fun w H2 b s2 o2 h2 => ?_
 have p1 := s1.p S.p
 refine hr H2 v w a.d b.d _ _ S.ok (s2.p p1) (Is.stp s2 (fun _ f => f) (fun _ f => f) (o1.is S.ok S.p)) (o2.is S.ok p1) h2 fun z H3 c s3 o3 h3 => ?_
 exact k z H3 c ((s1.trans s2).trans s3) (Out.ahead S.ok S.p (s1.trans s2) o3) h3
def fn2 (F : PyData → PyData → Option R) : PyData → PyData → (R → Prop) → Prop := fun a b Q => ∃ r, F a b = some r ∧ Q r
def bD (f : DE) : DT := fun ρ Q => f ρ fun r => ∃ b, r.d = .bool b ∧ Q b
theorem td_val {t : TE} {f : DE} (h : ED K O t f) : TD K O (tTest t) (bD f) := fun σ H ρ Q Qd S hf k => by
 refine h σ H ρ _ _ S hf fun v H1 r s1 o1 ⟨b, e, q⟩ => ?_
 have i := o1.is S.ok S.p
 rw [e] at i
 cases i
 exact ⟨b, rfl, k b H1 s1 q⟩
theorem td_valB {t : TE} {f : DE} (h : ED K O t f) : TD K O (tB t) (bD f) := fun σ H ρ Q Qd S hf k => by
 refine h σ H ρ _ _ S hf fun v H1 r s1 o1 ⟨b, e, q⟩ => ?_
 have i := o1.is S.ok S.p
 rw [e] at i
 cases i
 exact ⟨b, rfl, k b H1 s1 q⟩
def orT (f g : DT) : DT := fun ρ Q => f ρ fun b => if b = true then Q true else g ρ Q
def notT (f : DT) : DT := fun ρ Q => f ρ fun b => Q (!b)
theorem td_or {t u : TT} {f g : DT} (h : TD K O t f) (h' : TD K O u g) : TD K O (tOr t u) (orT f g) := fun σ H ρ Q Qd S hf k => by
 refine h σ H ρ _ _ S hf fun b H1 s1 q => ?_
 cases b with
 | false => exact h' σ H1 ρ _ _ (S.stp s1) q fun c H2 s2 q2 => k c H2 (s1.trans s2) q2
 | true => exact k true H1 s1 q
theorem td_not {t : TT} {f : DT} (h : TD K O t f) : TD K O (tNot t) (notT f) := fun σ H ρ Q Qd S hf k => h σ H ρ _ _ S hf fun b H1 s1 q => k (!b) H1 s1 q
def aNil : DA := fun _ Q => Q []
def aCons (f : DE) (g : DA) : DA := fun ρ Q => f ρ fun r => g ρ fun ds => Q (r.d :: ds)
theorem ad_nil : AD K O tNil aNil := fun σ H ρ Q Qd S h k => k [] H [] (.refl _ _) .nil h
theorem ad_cons {t : TE} {u : TA} {f : DE} {g : DA} (h : ED K O t f) (h' : AD K O u g) : AD K O (tCons t u) (aCons f g) := fun σ H ρ Q Qd S hf k => by
 refine h σ H ρ _ _ S hf fun v H1 r s1 o1 q => ?_
 refine h' σ H1 ρ _ _ (S.stp s1) q fun vs H2 ds s2 o2 q2 => ?_
 exact k (v :: vs) H2 (r.d :: ds) (s1.trans s2) (.cons (Is.stp s2 (fun _ f => f) (fun _ f => f) (o1.is S.ok S.p)) o2) q2
def lstD (g : DA) : DE := fun ρ Q => g ρ fun ds => ds.length ≤ sizeLine ∧ Q (.n ds)
theorem ed_lst {u : TA} {g : DA} (h : AD K O u g) : ED K O (tLst u) (lstD g) := fun σ H ρ Q Qd S hf k => by
 refine h σ H ρ _ _ S hf fun vs H1 ds s1 o1 ⟨z, q⟩ => ⟨by rw [o1.length]; exact z, fun p hp => ?_⟩
 have s2 : Stp O H1 (upd H1 p (.lst vs)) := .new S.ok hp _
 have m : ¬ O.M p := fun m => by obtain ⟨o, z⟩ := S.ok.here H1 p (s1.p S.p) m; rw [hp] at z; cases z
 exact k _ _ (.n ds) (s1.trans s2) ⟨p, vs, rfl, s1.s.free m hp, upd_same, o1.stp s2 (fun _ f => f) (fun _ f => f)⟩ q
def CallD (K : PySem.W.Frag) (O : Ob) (r : List V → Hp → VK → Prop) (f : List PyData → (R → Prop) → Prop) : Prop :=
 ∀ (H : Hp) (vs : List V) (ds : List PyData) (Q : VK) (Qd : R → Prop), O.Ok → O.P H → IsAll K (unM O) H vs ds → f ds Qd → (∀ v H' r, Stp O H H' → Out K O H H' v r → Qd r → Q v H') → r vs H Q
def callDE (f : List PyData → (R → Prop) → Prop) (g : DA) : DE := fun ρ Q => g ρ fun ds => f ds Q
theorem ed_callB {r : List V → Hp → VK → Prop} {u : TA} {f : List PyData → (R → Prop) → Prop} {g : DA} (hr : CallD K O r f) (h : AD K O u g) : ED K O (tCB r u) (callDE f g) := fun σ H ρ Q Qd S hf k => by
 refine h σ H ρ _ _ S hf fun vs H1 ds s1 o1 q => ?_
 exact hr H1 vs ds _ _ S.ok (s1.p S.p) o1 q fun v H2 r s2 o2 q2 => k v H2 r (s1.trans s2) (o2.ahead S.ok S.p s1) q2
def fn1 (F : List PyData → Option R) : List PyData → (R → Prop) → Prop := fun ds Q => ∃ r, F ds = some r ∧ Q r
end
end L3
namespace L3
open PySem PySem.Spec
open PyProof.Rows hiding St
open L2
abbrev DG := PyData → DSt → (DSt → Prop) → Prop
def gN (i : Nat) : DG := fun d ρ Q => Q (ρ.set i (some (.im d)))
def GS (K : PySem.W.Frag) (O : Ob) (t : TG) (g : DG) : Prop :=
 ∀ (σ : St) (H : Hp) (ρ : DSt) (v : V) (d : PyData) (Q : St → Hp → Prop) (Qd : DSt → Prop), Seen K O H σ ρ → Is K (unM O) H v d → g d ρ Qd → (∀ σ' ρ', Seen K O H σ' ρ' → Qd ρ' → Q σ' H) → t v σ H Q
section
variable {K : PySem.W.Frag} {O : Ob}
theorem Seen.set {H : Hp} {σ : St} {ρ : DSt} {i : Nat} {v : V} {r : DV} (S : Seen K O H σ ρ) (h : SeenV K O H v r) : Seen K O H (σ.set i (some v)) (ρ.set i (some r)) := by
 have hl := S.len
 refine ⟨S.ok, S.p, fun j r' e => ?_, by rw [List.length_set, List.length_set]; exact S.len⟩
 by_cases hj : i = j
 · subst hj
   have hi : i < ρ.length := by
     rcases Nat.lt_or_ge i ρ.length with z | z
     · exact z
     · rw [List.getElem?_eq_none (by simpa using z)] at e; cases e
   rw [List.getElem?_set_self hi] at e
   cases e
   exact ⟨v, List.getElem?_set_self (by omega), h⟩
 · rw [List.getElem?_set_ne hj] at e
   obtain ⟨w, h1, h2⟩ := S.at_ j r' e
   exact ⟨w, by rw [List.getElem?_set_ne hj]; exact h1, h2⟩
theorem gs_name {i : Nat} : GS K O (gName i) (gN i) := fun σ H ρ v d Q Qd S i h k => k _ _ (S.set (r := .im d) i) h
structure Walk (K : PySem.W.Frag) (O : Ob) (H H1 : Hp) (J : It) (ds : List PyData) (B : Addr → Prop) : Prop where
 st : Stp O H H1
 hb : ∀ a, B a → ¬ O.M a ∧ ∃ o, H1 a = some o
 stop : ∀ H2 i, (∀ a o, B a → H1 a = some o → H2 a = some o) → TupStay H1 H2 → ds.length ≤ i → J.stop i H2
 item : ∀ H2 i d, (∀ a o, B a → H1 a = some o → H2 a = some o) → TupStay H1 H2 → ds[i]? = some d → (flat d = true ∨ ∀ a o, H1 a = some o → ¬ O.M a → H2 a = some o) →
   J.go i H2 ∧ ∀ x H3, J.yld i H2 x H3 → Same H2 H3 ∧ Is K (fun a => ¬ O.M a ∧ (flat d = true ∨ ∃ o, H1 a = some o)) H3 x d
abbrev DI := DSt → (Bool → List PyData → Prop) → Prop
def SrcS (K : PySem.W.Frag) (O : Ob) (wi : TI) (f : DI) : Prop :=
 ∀ (σ : St) (H : Hp) (ρ : DSt) (R : It → Hp → Prop) (Qd : Bool → List PyData → Prop), Seen K O H σ ρ → f ρ Qd →
   (∀ (J : It) (H1 : Hp) (ds : List PyData) (B : Addr → Prop) (fr : Bool), Walk K O H H1 J ds B → (fr = true → ∀ a, B a → H a = none) → Qd fr ds → R J H1) → wi σ H R
end
def compGo (h : Nat) (g : DG) (ft : DT) (fe : DE) (ρ : DSt) (Q : List PyData → Prop) : List PyData → List PyData → Prop
 | [], acc => Q acc
 | d :: ds, acc => g d (List.replicate h none ++ ρ) fun ρ2 => ft ρ2 fun b => if b = true then fe ρ2 fun r => acc.length < sizeLine ∧ compGo h g ft fe ρ Q ds (acc ++ [r.d]) else compGo h g ft fe ρ Q ds acc
def compD (h : Nat) (f : DI) (g : DG) (ft : DT) (fe : DE) : DE := fun ρ Q => f ρ fun _ ds => compGo h g ft fe ρ (fun es => Q (.n es)) ds []
section
variable {K : PySem.W.Frag} {O : Ob}
theorem seen_pad {H : Hp} {σ : St} {ρ : DSt} (S : Seen K O H σ ρ) (h : Nat) : Seen K O H (List.replicate h none ++ σ) (List.replicate h none ++ ρ) := by
 refine ⟨S.ok, S.p, fun i r e => ?_, by rw [List.length_append, List.length_append, List.length_replicate, List.length_replicate, S.len]⟩
 by_cases hi : i < h
 · rw [List.getElem?_append_left (by simpa using hi), List.getElem?_replicate, if_pos hi] at e
   cases e
 · rw [List.getElem?_append_right (by simpa using Nat.le_of_not_lt hi), List.length_replicate] at e
   obtain ⟨v, h1, h2⟩ := S.at_ _ r e
   exact ⟨v, by rw [List.getElem?_append_right (by simpa using Nat.le_of_not_lt hi), List.length_replicate]; exact h1, h2⟩
theorem seen_plus {H : Hp} {σ : St} {ρ : DSt} {D : Addr} {xs : List V} (S : Seen K O H σ ρ) (hD : H D = none) : Seen K (O.plus D (.lst xs)) (upd H D (.lst xs)) σ ρ := by
 have gr : Same H (upd H D (.lst xs)) := same_new hD _
 refine ⟨S.ok.plus D xs, ⟨S.ok.grow _ _ gr S.p, upd_same⟩, fun i r e => ?_, S.len⟩
 obtain ⟨v, h1, h2⟩ := S.at_ i r e
 have go : ∀ d, Is K (unM O) H v d → Is K (unM (O.plus D (.lst xs))) (upd H D (.lst xs)) v d := fun d z =>
   z.to (fun a ys f q => ⟨fun m => (by
     rcases m with m | rfl
     · exact f m
     · rw [hD] at q; cases q), gr _ _ q⟩) fun a ys q => SqT.stay (h := q) fun b u _ hb => gr b u hb
 refine ⟨v, h1, ?_⟩
 cases r with
 | im d => exact go d h2
 | own ds => exact go _ h2
 | ob => exact h2
 | scr n => exact IsS.to (fun a u f q => ⟨fun m => (by
     rcases m with m | rfl
     · exact f m
     · rw [hD] at q; cases q), gr _ _ q⟩) h2
 | dct ks =>
   obtain ⟨a, n, h2⟩ := h2
   refine ⟨a, fun m => ?_, h2.to fun u q => gr _ _ q⟩
   rcases m with m | rfl
   · exact n m
   · obtain ⟨_, kvs, q, _⟩ := h2
     rw [hD] at q
     cases q
 | gen f ds =>
   obtain ⟨a, ys, e, n, q, z⟩ := h2
   refine ⟨a, ys, e, fun m => ?_, gr _ _ q, z.to (fun a ys f q => ⟨fun m => (by
     rcases m with m | rfl
     · exact f m
     · rw [hD] at q; cases q), gr _ _ q⟩) fun a ys q => SqT.stay (h := q) fun b u _ hb => gr b u hb⟩
   rcases m with m | rfl
   · exact n m
   · rw [hD] at q; cases q
 | rd f ds =>
   obtain ⟨a, ys, e, n, q, z⟩ := h2
   refine ⟨a, ys, e, fun m => ?_, gr _ _ q, z.to (fun a ys f q => ⟨fun m => (by
     rcases m with m | rfl
     · exact f m
     · rw [hD] at q; cases q), gr _ _ q⟩) fun a ys q => SqT.stay (h := q) fun b u _ hb => gr b u hb⟩
   rcases m with m | rfl
   · exact n m
   · rw [hD] at q; cases q
 | exc C ns ds =>
   obtain ⟨ys, e, z⟩ := h2
   have mv : ∀ a u, unM O a → H a = some u → unM (O.plus D (.lst xs)) a ∧ upd H D (.lst xs) a = some u := fun a u f q => ⟨fun m => (by
     rcases m with m | rfl
     · exact f m
     · rw [hD] at q; cases q), gr _ _ q⟩
   exact ⟨ys, e.to mv, z.to (fun a ys f q => mv a _ f q) fun a ys q => SqT.stay (h := q) fun b u _ hb => gr b u hb⟩
 | thg T =>
   obtain ⟨W, hw, z⟩ := h2
   exact ⟨W, fun a w => ⟨fun m => (by
     obtain ⟨n, o, q⟩ := hw a w
     rcases m with m | rfl
     · exact n m
     · rw [hD] at q; cases q), let ⟨o, q⟩ := (hw a w).2; ⟨o, gr _ _ q⟩⟩, T.to (fun a u f q => ⟨fun m => (by
     rcases m with m | rfl
     · exact f m
     · rw [hD] at q; cases q), gr _ _ q⟩) (fun a u w q => ⟨w, gr _ _ q⟩) (fun b u _ hb => gr b u hb) z⟩
 | thr T =>
   obtain ⟨W, hw, z⟩ := h2
   exact ⟨W, fun a w => ⟨fun m => (by
     obtain ⟨n, o, q⟩ := hw a w
     rcases m with m | rfl
     · exact n m
     · rw [hD] at q; cases q), let ⟨o, q⟩ := (hw a w).2; ⟨o, gr _ _ q⟩⟩, T.to (fun a u f q => ⟨fun m => (by
     rcases m with m | rfl
     · exact f m
     · rw [hD] at q; cases q), gr _ _ q⟩) (fun a u w q => ⟨w, gr _ _ q⟩) (fun b u _ hb => gr b u hb) z⟩
theorem ed_comp {h : Nat} {wi : TI} {tg : TG} {tf : TT} {te : TE} {f : DI} {g : DG} {ft : DT} {fe : DE} (hs : SrcS K O wi f) (hg : ∀ O' : Ob, GS K O' tg g)
   (hf : ∀ (D : Addr) (xs : List V), ¬ O.M D → TD K (O.plus D (.lst xs)) tf ft) (he : ∀ (D : Addr) (xs : List V), ¬ O.M D → ED K (O.plus D (.lst xs)) te fe) : ED K O (tComp h wi tg tf te) (compD h f g ft fe) := by
 intro σ H ρ Q Qd S hq k
 refine hs σ H ρ _ _ S hq fun J H1 ds B fr W _ hgo D hD => ?_
 have S1 := S.stp W.st
 have nM : ¬ O.M D := fun m => by obtain ⟨o, z⟩ := S.ok.here H1 D S1.p m; rw [hD] at z; cases z
 have aD : ∀ a o, H1 a = some o → a ≠ D := fun a o e z => by rw [z, hD] at e; cases e
 refine ⟨fun i m ys H2 => m = ds.length - i ∧ i ≤ ds.length ∧ H2 D = some (.lst ys) ∧ (∀ a o, H1 a = some o → ¬ O.M a → H2 a = some o) ∧ TupStay H1 H2 ∧ Seen K (O.plus D (.lst ys)) H2 σ ρ ∧
     ∃ acc, IsAll K (fun a => ¬ (O.M a ∨ a = D)) H2 ys acc ∧ compGo h g ft fe ρ (fun es => Qd (.n es)) (ds.drop i) acc, ⟨ds.length, rfl, Nat.zero_le _, upd_same, fun a o e _ => by rw [upd_ne (aD a o e)]; exact e, fun a u _ e => by rw [upd_ne (aD a u e)]; exact e, seen_plus S1 hD, [], .nil, by simpa using hgo⟩, ?_⟩
 rintro i m ys H2 ⟨rfl, hi, hDy, kp, tst, S2, acc, hacc, go⟩
 refine ⟨hDy, ?_⟩
 have kB : ∀ a o, B a → H1 a = some o → H2 a = some o := fun a o b e => kp a o e (W.hb a b).1
 by_cases hlt : i < ds.length
 · right
   have hd : ds[i]? = some ds[i] := List.getElem?_eq_getElem hlt
   rw [List.drop_eq_getElem_cons hlt] at go
   obtain ⟨hgo1, hy⟩ := W.item H2 i ds[i] kB tst hd (.inr kp)
   refine ⟨hgo1, fun x H3 y => ?_⟩
   obtain ⟨sm, ix⟩ := hy x H3 y
   have st3 : Stp (O.plus D (.lst ys)) H2 H3 := .same S2.ok sm
   have S3 := S2.stp st3
   have ix' : Is K (unM (O.plus D (.lst ys))) H3 x ds[i] := by
     by_cases hfl : flat ds[i] = true
     · exact Is.flat (TupStay.refl H3) ix hfl
     · exact ix.weak fun a ha mm => by
         rcases mm with mm | mm
         · exact ha.1 mm
         · rcases ha.2 with z | ⟨o, z⟩
           · exact hfl z
           · exact aD a o z mm
   refine hg _ _ H3 _ x ds[i] _ _ (seen_pad S3 h) ix' go fun σ2 ρ2 Sg q => ?_
   refine hf D ys nM σ2 H3 ρ2 _ _ Sg q fun b H4 st4 q4 => ?_
   have st34 := st3.trans st4
   have acc4 : ∀ {H' : Hp}, Stp (O.plus D (.lst ys)) H2 H' → IsAll K (fun a => ¬ (O.M a ∨ a = D)) H' ys acc := fun st => hacc.stp st (fun _ z => z) (fun _ z => z)
   cases b with
   | false =>
     refine ⟨ds.length - (i + 1), by omega, rfl, hlt, st34.s D _ hDy |> fun z => (st34.p S2.p).2, fun a o e n => ?_, fun a u hu e => st34.t a u hu (tst a u hu e), S2.stp st34, acc, acc4 st34, q4⟩
     exact st34.s a o (kp a o e n) fun mm => by
       rcases mm with mm | mm
       · exact n mm
       · exact aD a o e mm
   | true =>
     refine he D ys nM σ2 H4 ρ2 _ _ (Sg.stp st4) q4 fun yv H5 r st5 o5 ⟨hz, q5⟩ => ?_
     have st25 := st34.trans st5
     have S5 := S2.stp st25
     have hD5 : H5 D = some (.lst ys) := (st25.p S2.p).2
     have iy := o5.is (Sg.stp st4).ok (Sg.stp st4).p
     have a5 := acc4 st25
     refine ⟨hD5, by rw [hacc.length]; exact hz, ds.length - (i + 1), by omega, rfl, hlt, upd_same, fun a o e n => ?_, fun a u hu e => ?_, ?_, acc ++ [r.d], ?_, q5⟩
     · rw [upd_ne (aD a o e)]
       exact st25.s a o (kp a o e n) fun mm => by
         rcases mm with mm | mm
         · exact n mm
         · exact aD a o e mm
     · rw [upd_ne (aD a u e)]
       exact st25.t a u hu (tst a u hu e)
     · have p5 : O.P (upd H5 D (.lst (ys ++ [yv]))) := S.ok.loc H5 _ (fun a m => upd_ne fun z => nM (z ▸ m)) S5.p.1
       refine ⟨S.ok.plus D _, ⟨p5, upd_same⟩, fun j r' e => ?_, S5.len⟩
       obtain ⟨v', h1, h2⟩ := S5.at_ j r' e
       have go : ∀ d, Is K (unM (O.plus D (.lst ys))) H5 v' d → Is K (unM (O.plus D (.lst (ys ++ [yv])))) (upd H5 D (.lst (ys ++ [yv]))) v' d := fun d z =>
         z.to (fun a xs fa qa => ⟨fa, by rw [upd_ne fun z => fa (.inr z)]; exact qa⟩) fun a xs qa => SqT.stay (h := qa) fun b u hu hb => by
           rw [upd_ne fun z => ?_]
           · exact hb
           · obtain ⟨us, e1 | ⟨o', e1⟩⟩ := hu <;> (rw [z, hD5] at hb; cases hb; cases e1)
       refine ⟨v', h1, ?_⟩
       cases r' with
       | im d => exact go d h2
       | own es => exact go _ h2
       | ob => exact h2
       | scr n => exact IsS.to (fun a u fa qa => ⟨fa, by rw [upd_ne fun z => fa (.inr z)]; exact qa⟩) h2
       | dct ks => obtain ⟨a, fa, h2⟩ := h2; exact ⟨a, fa, h2.to fun u qa => by rw [upd_ne fun z => fa (.inr z)]; exact qa⟩
       | gen f ds =>
         obtain ⟨a, xs, e, fa, q, z⟩ := h2
         refine ⟨a, xs, e, fa, by rw [upd_ne fun z => fa (.inr z)]; exact q, z.to (fun a xs fa qa => ⟨fa, by rw [upd_ne fun z => fa (.inr z)]; exact qa⟩) fun a xs qa => SqT.stay (h := qa) fun b u hu hb => ?_⟩
         rw [upd_ne fun z => ?_]
         · exact hb
         · obtain ⟨us, e1 | ⟨o', e1⟩⟩ := hu <;> (rw [z, hD5] at hb; cases hb; cases e1)
       | rd f ds =>
         obtain ⟨a, xs, e, fa, q, z⟩ := h2
         refine ⟨a, xs, e, fa, by rw [upd_ne fun z => fa (.inr z)]; exact q, z.to (fun a xs fa qa => ⟨fa, by rw [upd_ne fun z => fa (.inr z)]; exact qa⟩) fun a xs qa => SqT.stay (h := qa) fun b u hu hb => ?_⟩
         rw [upd_ne fun z => ?_]
         · exact hb
         · obtain ⟨us, e1 | ⟨o', e1⟩⟩ := hu <;> (rw [z, hD5] at hb; cases hb; cases e1)
       | exc C ns ds =>
         obtain ⟨xs, e, z⟩ := h2
         have mv : ∀ a u, unM (O.plus D (.lst ys)) a → H5 a = some u → unM (O.plus D (.lst (ys ++ [yv]))) a ∧ upd H5 D (.lst (ys ++ [yv])) a = some u := fun a u fa qa => ⟨fa, by rw [upd_ne fun z => fa (.inr z)]; exact qa⟩
         refine ⟨xs, e.to mv, z.to (fun a xs fa qa => mv a _ fa qa) fun a xs qa => SqT.stay (h := qa) fun b u hu hb => ?_⟩
         rw [upd_ne fun z => ?_]
         · exact hb
         · obtain ⟨us, e1 | ⟨o', e1⟩⟩ := hu <;> (rw [z, hD5] at hb; cases hb; cases e1)
       | thg T =>
         obtain ⟨W, hw, z⟩ := h2
         refine ⟨W, fun a w => ⟨(hw a w).1, let ⟨o, q⟩ := (hw a w).2; ⟨o, by rw [upd_ne fun z => (hw a w).1 (.inr z)]; exact q⟩⟩, T.to (fun a u fa qa => ⟨fa, by rw [upd_ne fun z => fa (.inr z)]; exact qa⟩) (fun a u w q => ⟨w, by rw [upd_ne fun z => (hw a w).1 (.inr z)]; exact q⟩) (fun b u hu hb => ?_) z⟩
         rw [upd_ne fun z => ?_]
         · exact hb
         · obtain ⟨us, e1 | ⟨o', e1⟩⟩ := hu <;> (rw [z, hD5] at hb; cases hb; cases e1)
       | thr T =>
         obtain ⟨W, hw, z⟩ := h2
         refine ⟨W, fun a w => ⟨(hw a w).1, let ⟨o, q⟩ := (hw a w).2; ⟨o, by rw [upd_ne fun z => (hw a w).1 (.inr z)]; exact q⟩⟩, T.to (fun a u fa qa => ⟨fa, by rw [upd_ne fun z => fa (.inr z)]; exact qa⟩) (fun a u w q => ⟨w, by rw [upd_ne fun z => (hw a w).1 (.inr z)]; exact q⟩) (fun b u hu hb => ?_) z⟩
         rw [upd_ne fun z => ?_]
         · exact hb
         · obtain ⟨us, e1 | ⟨o', e1⟩⟩ := hu <;> (rw [z, hD5] at hb; cases hb; cases e1)
     · have mv : ∀ {vs es}, IsAll K (fun a => ¬ (O.M a ∨ a = D)) H5 vs es → IsAll K (fun a => ¬ (O.M a ∨ a = D)) (upd H5 D (.lst (ys ++ [yv]))) vs es := fun z =>
         z.to (fun a xs fa qa => ⟨fa, by rw [upd_ne fun z => fa (.inr z)]; exact qa⟩) fun a xs qa => SqT.stay (h := qa) fun b u hu hb => by
           rw [upd_ne fun z => ?_]
           · exact hb
           · obtain ⟨us, e1 | ⟨o', e1⟩⟩ := hu <;> (rw [z, hD5] at hb; cases hb; cases e1)
       exact mv (a5.snoc iy)
 · left
   have e : i = ds.length := by omega
   subst e
   rw [List.drop_length] at go
   refine ⟨W.stop H2 _ kB tst (Nat.le_refl _), k _ H2 (.n acc) ?_ ⟨D, ys, rfl, W.st.s.free nM hD, hDy, hacc.weak fun a z m => z (.inl m)⟩ go⟩
   refine W.st.trans ⟨fun a o e n => kp a o e n, fun _ => S2.p.1, tst⟩
end
end L3
namespace L3
open PySem PySem.Spec
open PyProof.Rows hiding St
open L2
section
variable {K : PySem.W.Frag} {O : Ob}
def numsD (lo : Int) (n : Nat) : List PyData := (List.range n).map fun k => .int (lo + (k : Nat))
theorem numsD_get {lo : Int} {n i : Nat} {d : PyData} (h : (numsD lo n)[i]? = some d) : i < n ∧ d = .int (lo + (i : Nat)) := by
 unfold numsD at h
 rw [List.getElem?_map] at h
 by_cases hi : i < n
 · rw [List.getElem?_range hi] at h
   cases h
   exact ⟨hi, rfl⟩
 · rw [List.getElem?_eq_none (by simpa using hi)] at h
   cases h
theorem walk_ints {H H1 : Hp} (st : Stp O H H1) (lo : Int) (n : Nat) : Walk K O H H1 (Itr lo n) (numsD lo n) (fun _ => False) :=
 ⟨st, fun b hb => hb.elim, fun H2 i _ _ hi => (show n ≤ i by simpa [numsD] using hi), fun H2 i d _ t2 hd c => by
   obtain ⟨hi, rfl⟩ := numsD_get hd
   refine ⟨hi, fun x H3 ⟨e3, y⟩ => ?_⟩
   subst e3 y
   exact ⟨Same.refl _, .int _⟩⟩
def srcR1 (g : DA) : DI := fun ρ Q => g ρ fun ds => ∃ j : Int, ds = [.int j] ∧ -(2 ^ 62) ≤ j ∧ j < 2 ^ 62 ∧ Q true (numsD 0 j.toNat)
theorem src_rng1 {t : TA} {g : DA} (h : AD K O t g) : SrcS K O (iRng1 t) (srcR1 g) := fun σ H ρ R Qd S hf k => by
 refine h σ H ρ _ _ S hf fun vs H1 ds st is ⟨j, e, b1, b2, q⟩ => ?_
 subst e
 cases is with
 | cons i0 is =>
   cases is
   cases i0
   exact ⟨j, rfl, b1, b2, k _ H1 _ _ true (walk_ints st 0 j.toNat) (fun _ _ hb => hb.elim) q⟩
end
def sg (c : Nat) : Str := ⟨#[c]⟩
structure DEnds where
 nx : DSt → Prop
 rt : R → Prop
 bk : DSt → Prop := fun _ => False
 ct : DSt → Prop := fun _ => False
abbrev DS := DEnds → DSt → Prop
def unO (O : Ob) (A : Nat → Addr → Prop) : Addr → Prop := fun a => ¬ O.M a ∧ ∀ j, ¬ A j a
def OwnO (o : HO) : Prop := ∀ us, o ≠ .tup us ∧ ∀ o', o ≠ .frz o' (.tup us)
theorem OwnO.lst {xs : List V} : OwnO (.lst xs) := fun _ => ⟨fun z => (nomatch z), fun _ z => (nomatch z)⟩
def RepV (K : PySem.W.Frag) (O : Ob) (A : Nat → Addr → Prop) (H : Hp) (i : Nat) (v : V) : DV → Prop
 | .im d => Is K (unO O A) H v d
 | .own ds => ∃ a xs, v = .ref a ∧ A i a ∧ H a = some (.lst xs) ∧ IsAll K (unO O A) H xs ds
 | .ob => v = O.v
 | .scr n => IsS K (unO O A) H v n
 | .dct ks => ∃ a, A i a ∧ DkAt H v a ks
 | .gen f ds => ∃ a xs, v = .ref a ∧ A i a ∧ H a = some (f a xs) ∧ IsAll K (unO O A) H xs ds
 | .rd f ds => ∃ a xs, v = .ref a ∧ unO O A a ∧ H a = some (f a xs) ∧ IsAll K (unO O A) H xs ds
 | .exc C ns ds => ∃ xs, ExAt (unO O A) H v C ns xs ∧ IsAll K (unO O A) H xs ds
 | .thg T => T.R K (unO O A) (A i) H v
 | .thr T => ∃ W : Addr → Prop, (∀ a, W a → unO O A a ∧ ∃ o, H a = some o) ∧ T.R K (unO O A) W H v
structure Rep (K : PySem.W.Frag) (O : Ob) (H₀ : Hp) (A : Nat → Addr → Prop) (H : Hp) (σ : St) (ρ : DSt) : Prop where
 ok : O.Ok
 p : O.P H
 p0 : O.P H₀
 st : Stp O H₀ H
 dis : ∀ i j a, A i a → A j a → i = j
 own : ∀ i a, A i a → H₀ a = none ∧ (∃ o, H a = some o ∧ OwnO o) ∧ ¬ O.M a
 at_ : ∀ (i : Nat) r, ρ[i]? = some (some r) → ∃ v, σ[i]? = some (some v) ∧ RepV K O A H i v r
 len : ρ.length = σ.length
def Frm (O : Ob) (A : Nat → Addr → Prop) (H : Hp) (A' : Nat → Addr → Prop) (H' : Hp) : Prop := ∀ a o, H a = some o → unO O A a → H' a = some o ∧ unO O A' a
theorem Frm.refl {O : Ob} {A : Nat → Addr → Prop} {H : Hp} : Frm O A H A H := fun _ _ h u => ⟨h, u⟩
theorem Frm.trans {O : Ob} {A A1 A2 : Nat → Addr → Prop} {H H1 H2 : Hp} (a : Frm O A H A1 H1) (b : Frm O A1 H1 A2 H2) : Frm O A H A2 H2 := fun c o h u => let ⟨h1, u1⟩ := a c o h u; b c o h1 u1
structure Post (K : PySem.W.Frag) (O : Ob) (H₀ : Hp) (A : Nat → Addr → Prop) (H : Hp) (D : Ends) (Dd : DEnds) : Prop where
 nx : ∀ A' σ' H' ρ', Rep K O H₀ A' H' σ' ρ' → Frm O A H A' H' → Dd.nx ρ' → D.nx σ' H'
 bk : ∀ A' σ' H' ρ', Rep K O H₀ A' H' σ' ρ' → Frm O A H A' H' → Dd.bk ρ' → D.bk σ' H'
 ct : ∀ A' σ' H' ρ', Rep K O H₀ A' H' σ' ρ' → Frm O A H A' H' → Dd.ct ρ' → D.ct σ' H'
 rt : ∀ H' v r, Stp O H₀ H' → Out K O H₀ H' v r → Dd.rt r → D.rt v H'
def SD (K : PySem.W.Frag) (O : Ob) (t : TS) (g : DS) : Prop :=
 ∀ (H₀ : Hp) (A : Nat → Addr → Prop) (σ : St) (H : Hp) (ρ : DSt) (D : Ends) (Dd : DEnds), Rep K O H₀ A H σ ρ → g Dd ρ → Post K O H₀ A H D Dd → t D σ H
section
variable {K : PySem.W.Frag} {O : Ob} {H₀ H H' : Hp} {A : Nat → Addr → Prop} {σ : St} {ρ : DSt}
theorem Rep.seen (r : Rep K O H₀ A H σ ρ) : Seen K O H σ ρ := by
 refine ⟨r.ok, r.p, fun i x e => ?_, r.len⟩
 obtain ⟨v, hv, h⟩ := r.at_ i x e
 refine ⟨v, hv, ?_⟩
 cases x with
 | im d => exact h.weak fun a u => u.1
 | own ds =>
   obtain ⟨a, xs, rfl, ha, hl, hs⟩ := h
   exact .list (r.own i a ha).2.2 hl (hs.weak fun a u => u.1)
 | ob => exact h
 | scr n => exact IsS.to (fun a u f q => ⟨f.1, q⟩) h
 | dct ks => obtain ⟨a, ha, h⟩ := h; exact ⟨a, (r.own i a ha).2.2, h⟩
 | gen f ds => obtain ⟨a, xs, e, ha, q, z⟩ := h; exact ⟨a, xs, e, (r.own i a ha).2.2, q, z.weak fun a u => u.1⟩
 | rd f ds => obtain ⟨a, xs, e, ha, q, z⟩ := h; exact ⟨a, xs, e, ha.1, q, z.weak fun a u => u.1⟩
 | exc C ns ds => obtain ⟨xs, e, z⟩ := h; exact ⟨xs, e.to fun a u f q => ⟨f.1, q⟩, z.weak fun a u => u.1⟩
 | thg T => exact ⟨A i, fun a w => ⟨(r.own i a w).2.2, let ⟨o, q, _⟩ := (r.own i a w).2.1; ⟨o, q⟩⟩, T.to (fun a u f q => ⟨f.1, q⟩) (fun a u w q => ⟨w, q⟩) (TupStay.refl _) h⟩
 | thr T => obtain ⟨W, hw, z⟩ := h; exact ⟨W, fun a w => ⟨(hw a w).1.1, (hw a w).2⟩, T.to (fun a u f q => ⟨f.1, q⟩) (fun a u w q => ⟨w, q⟩) (TupStay.refl _) z⟩
theorem Rep.stp (r : Rep K O H₀ A H σ ρ) (s : Stp O H H') : Rep K O H₀ A H' σ ρ := by
 refine ⟨r.ok, s.p r.p, r.p0, r.st.trans s, r.dis, fun i a ha => ?_, fun i x e => ?_, r.len⟩
 · obtain ⟨h0, ⟨xs, hx, ho⟩, hm⟩ := r.own i a ha
   exact ⟨h0, ⟨xs, s.s a _ hx hm, ho⟩, hm⟩
 · obtain ⟨v, hv, h⟩ := r.at_ i x e
   refine ⟨v, hv, ?_⟩
   cases x with
   | im d => exact Is.stp s (fun _ z => z) (fun _ z => z.1) h
   | own ds =>
     obtain ⟨a, xs, rfl, ha, hl, hs⟩ := h
     exact ⟨a, xs, rfl, ha, s.s a _ hl (r.own i a ha).2.2, hs.stp s (fun _ z => z) (fun _ z => z.1)⟩
   | ob => exact h
   | scr n => exact IsS.to (fun a u f q => ⟨f, s.s a u q f.1⟩) h
   | dct ks => obtain ⟨a, ha, h⟩ := h; exact ⟨a, ha, h.to fun u q => s.s a u q (r.own i a ha).2.2⟩
   | gen f ds => obtain ⟨a, xs, e, ha, q, z⟩ := h; exact ⟨a, xs, e, ha, s.s a _ q (r.own i a ha).2.2, z.stp s (fun _ z => z) (fun _ z => z.1)⟩
   | rd f ds => obtain ⟨a, xs, e, ha, q, z⟩ := h; exact ⟨a, xs, e, ha, s.s a _ q ha.1, z.stp s (fun _ z => z) (fun _ z => z.1)⟩
   | exc C ns ds => obtain ⟨xs, e, z⟩ := h; exact ⟨xs, e.to fun a u f q => ⟨f, s.s a u q f.1⟩, z.stp s (fun _ z => z) (fun _ z => z.1)⟩
   | thg T => exact T.to (fun a u f q => ⟨f, s.s a u q f.1⟩) (fun a u w q => ⟨w, s.s a u q (r.own i a w).2.2⟩) s.t h
   | thr T => obtain ⟨W, hw, z⟩ := h; exact ⟨W, fun a w => let ⟨f, o, q⟩ := hw a w; ⟨f, o, s.s a o q f.1⟩, T.to (fun a u f q => ⟨f, s.s a u q f.1⟩) (fun a u w q => ⟨w, s.s a u q (hw a w).1.1⟩) s.t z⟩
theorem Frm.stp (s : Stp O H H') : Frm O A H A H' := fun a o e u => ⟨s.s a o e u.1, u⟩
theorem Rep.setIm {i : Nat} {v : V} {d : PyData} (r : Rep K O H₀ A H σ ρ) (h : Is K (unO O A) H v d) : Rep K O H₀ (fun j a => j ≠ i ∧ A j a) H (σ.set i (some v)) (ρ.set i (some (.im d))) := by
 have un : ∀ a, unO O A a → unO O (fun j a => j ≠ i ∧ A j a) a := fun a u => ⟨u.1, fun j z => u.2 j z.2⟩
 refine ⟨r.ok, r.p, r.p0, r.st, fun j k a x y => r.dis j k a x.2 y.2, fun j a x => r.own j a x.2, fun j x e => ?_, by rw [List.length_set, List.length_set]; exact r.len⟩
 by_cases hj : i = j
 · subst hj
   have hi : i < ρ.length := by
     rcases Nat.lt_or_ge i ρ.length with z | z
     · exact z
     · rw [List.getElem?_eq_none (by simpa using z)] at e; cases e
   rw [List.getElem?_set_self hi] at e
   cases e
   exact ⟨v, List.getElem?_set_self (by have := r.len; omega), h.weak un⟩
 · rw [List.getElem?_set_ne hj] at e
   obtain ⟨w, h1, h2⟩ := r.at_ j x e
   refine ⟨w, by rw [List.getElem?_set_ne hj]; exact h1, ?_⟩
   cases x with
   | im d => exact h2.weak un
   | own ds =>
     obtain ⟨a, xs, rfl, ha, hl, hs⟩ := h2
     exact ⟨a, xs, rfl, ⟨fun z => hj z.symm, ha⟩, hl, hs.weak un⟩
   | ob => exact h2
   | scr n => exact IsS.to (fun a u f q => ⟨un a f, q⟩) h2
   | dct ks => obtain ⟨a, ha, h2⟩ := h2; exact ⟨a, ⟨fun z => hj z.symm, ha⟩, h2⟩
   | gen f ds => obtain ⟨a, xs, e, ha, q, z⟩ := h2; exact ⟨a, xs, e, ⟨fun z => hj z.symm, ha⟩, q, z.weak un⟩
   | rd f ds => obtain ⟨a, xs, e, ha, q, z⟩ := h2; exact ⟨a, xs, e, un a ha, q, z.weak un⟩
   | exc C ns ds => obtain ⟨xs, e, z⟩ := h2; exact ⟨xs, e.to fun a u f q => ⟨un a f, q⟩, z.weak un⟩
   | thg T => exact T.to (fun a u f q => ⟨un a f, q⟩) (fun a u w q => ⟨⟨fun z => hj z.symm, w⟩, q⟩) (TupStay.refl _) h2
   | thr T => obtain ⟨W, hw, z⟩ := h2; exact ⟨W, fun a w => ⟨un a (hw a w).1, (hw a w).2⟩, T.to (fun a u f q => ⟨un a f, q⟩) (fun a u w q => ⟨w, q⟩) (TupStay.refl _) z⟩
theorem Rep.setOwn {i : Nat} {a : Addr} {xs : List V} {ds : List PyData} (r : Rep K O H₀ A H σ ρ) (s : Stp O H H') (hn : H a = none) (hl : H' a = some (.lst xs)) (hf : IsAll K (unM O) H' xs ds) (fl : flats ds = true) :
   Rep K O H₀ (fun j b => (j ≠ i ∧ A j b) ∨ (j = i ∧ b = a)) H' (σ.set i (some (.ref a))) (ρ.set i (some (.own ds))) := by
 have hm : ¬ O.M a := fun m => by obtain ⟨o, z⟩ := r.ok.here H a r.p m; rw [hn] at z; cases z
 have new : ∀ j, ¬ A j a := fun j z => by obtain ⟨_, ⟨ys, q, _⟩, _⟩ := r.own j a z; rw [hn] at q; cases q
 have un : ∀ b o, H b = some o → unO O A b → unO O (fun j b => (j ≠ i ∧ A j b) ∨ (j = i ∧ b = a)) b := fun b o e u => ⟨u.1, fun j z => by
   rcases z with z | z
   · exact u.2 j z.2
   · rw [z.2, hn] at e; cases e⟩
 have mv : ∀ {v d}, Is K (unO O A) H v d → Is K (unO O (fun j b => (j ≠ i ∧ A j b) ∨ (j = i ∧ b = a))) H' v d := fun z =>
   z.to (fun b ys f q => ⟨un b _ q f, s.s b _ q f.1⟩) fun b ys q => SqT.stay (h := q) s.t
 have mvs : ∀ {v d}, IsAll K (unO O A) H v d → IsAll K (unO O (fun j b => (j ≠ i ∧ A j b) ∨ (j = i ∧ b = a))) H' v d := fun z =>
   z.to (fun b ys f q => ⟨un b _ q f, s.s b _ q f.1⟩) fun b ys q => SqT.stay (h := q) s.t
 refine ⟨r.ok, s.p r.p, r.p0, r.st.trans s, fun j k b x y => ?_, fun j b x => ?_, fun j x e => ?_, by rw [List.length_set, List.length_set]; exact r.len⟩
 · rcases x with x | x <;> rcases y with y | y
   · exact r.dis j k b x.2 y.2
   · exact absurd (y.2 ▸ x.2) (new j)
   · exact absurd (x.2 ▸ y.2) (new k)
   · exact x.1.trans y.1.symm
 · rcases x with x | x
   · obtain ⟨h0, ⟨ys, q, ho⟩, m⟩ := r.own j b x.2
     exact ⟨h0, ⟨ys, s.s b _ q m, ho⟩, m⟩
   · obtain ⟨rfl, rfl⟩ := x
     exact ⟨r.st.s.free hm hn, ⟨_, hl, .lst⟩, hm⟩
 · by_cases hj : i = j
   · subst hj
     have hi : i < ρ.length := by
       rcases Nat.lt_or_ge i ρ.length with z | z
       · exact z
       · rw [List.getElem?_eq_none (by simpa using z)] at e; cases e
     rw [List.getElem?_set_self hi] at e
     cases e
     exact ⟨.ref a, List.getElem?_set_self (by have := r.len; omega), a, xs, rfl, .inr ⟨rfl, rfl⟩, hl, IsAll.flats (TupStay.refl H') hf fl⟩
   · rw [List.getElem?_set_ne hj] at e
     obtain ⟨w, h1, h2⟩ := r.at_ j x e
     refine ⟨w, by rw [List.getElem?_set_ne hj]; exact h1, ?_⟩
     cases x with
     | im d => exact mv h2
     | own es =>
       obtain ⟨b, ys, rfl, hb, hlb, hs⟩ := h2
       exact ⟨b, ys, rfl, .inl ⟨fun z => hj z.symm, hb⟩, s.s b _ hlb (r.own j b hb).2.2, mvs hs⟩
     | ob => exact h2
     | scr n => exact IsS.to (fun b u f q => ⟨un b u q f, s.s b u q f.1⟩) h2
     | dct ks => obtain ⟨b, hb, h2⟩ := h2; exact ⟨b, .inl ⟨fun z => hj z.symm, hb⟩, h2.to fun u q => s.s b u q (r.own j b hb).2.2⟩
     | gen f ds => obtain ⟨b, xs, e, hb, q, z⟩ := h2; exact ⟨b, xs, e, .inl ⟨fun z => hj z.symm, hb⟩, s.s b _ q (r.own j b hb).2.2, mvs z⟩
     | rd f ds => obtain ⟨b, xs, e, hb, q, z⟩ := h2; exact ⟨b, xs, e, un b _ q hb, s.s b _ q hb.1, mvs z⟩
     | exc C ns ds => obtain ⟨xs, e, z⟩ := h2; exact ⟨xs, e.to fun b u f q => ⟨un b _ q f, s.s b _ q f.1⟩, mvs z⟩
     | thg T => exact T.to (fun b u f q => ⟨un b u q f, s.s b u q f.1⟩) (fun b u w q => ⟨.inl ⟨fun z => hj z.symm, w⟩, s.s b u q (r.own j b w).2.2⟩) s.t h2
     | thr T => obtain ⟨W, hw, z⟩ := h2; exact ⟨W, fun b w => let ⟨f, o, q⟩ := hw b w; ⟨un b o q f, o, s.s b o q f.1⟩, T.to (fun b u f q => ⟨un b u q f, s.s b u q f.1⟩) (fun b u w q => ⟨w, s.s b u q (hw b w).1.1⟩) s.t z⟩
theorem Frm.setIm {i : Nat} (s : Stp O H H') : Frm O A H (fun j a => j ≠ i ∧ A j a) H' := fun a o e u => ⟨s.s a o e u.1, u.1, fun j z => u.2 j z.2⟩
theorem Frm.setOwn {i : Nat} {a : Addr} (s : Stp O H H') (hn : H a = none) : Frm O A H (fun j b => (j ≠ i ∧ A j b) ∨ (j = i ∧ b = a)) H' := fun b o e u => ⟨s.s b o e u.1, u.1, fun j z => by
 rcases z with z | z
 · exact u.2 j z.2
 · rw [z.2, hn] at e; cases e⟩
end
section
variable {K : PySem.W.Frag} {O : Ob}
theorem Post.frm {H₀ : Hp} {A A1 : Nat → Addr → Prop} {H H1 : Hp} {D : Ends} {Dd : DEnds} (P : Post K O H₀ A H D Dd) (f : Frm O A H A1 H1) : Post K O H₀ A1 H1 D Dd :=
 ⟨fun A' σ' H' ρ' r g => P.nx A' σ' H' ρ' r (f.trans g), fun A' σ' H' ρ' r g => P.bk A' σ' H' ρ' r (f.trans g), fun A' σ' H' ρ' r g => P.ct A' σ' H' ρ' r (f.trans g), P.rt⟩
def seqD (g k : DS) : DS := fun Dd ρ => g { Dd with nx := k Dd } ρ
theorem sd_seq {t u : TS} {g k : DS} (h : SD K O t g) (h' : SD K O u k) : SD K O (tSeq t u) (seqD g k) := fun H₀ A σ H ρ D Dd r q P =>
 h H₀ A σ H ρ _ _ r q ⟨fun A' σ' H' ρ' r' f q' => h' H₀ A' σ' H' ρ' D Dd r' q' (P.frm f), P.bk, P.ct, P.rt⟩
theorem sd_next : SD K O tNext (fun Dd ρ => Dd.nx ρ) := fun H₀ A σ H ρ D Dd r q P => P.nx A σ H ρ r .refl q
def ifS (c : DT) (g k : DS) : DS := fun Dd ρ => c ρ fun b => if b = true then g Dd ρ else k Dd ρ
theorem sd_if {c : TT} {t u : TS} {fc : DT} {g k : DS} (hc : TD K O c fc) (h : SD K O t g) (h' : SD K O u k) : SD K O (tIfS c t u) (ifS fc g k) := fun H₀ A σ H ρ D Dd r q P => by
 refine hc σ H ρ _ _ r.seen q fun b H1 s1 q1 => ?_
 cases b with
 | true => exact h H₀ A σ H1 ρ D Dd (r.stp s1) q1 (P.frm (.stp s1))
 | false => exact h' H₀ A σ H1 ρ D Dd (r.stp s1) q1 (P.frm (.stp s1))
def retS (f : DE) : DS := fun Dd ρ => f ρ Dd.rt
theorem sd_ret {t : TE} {f : DE} (h : ED K O t f) : SD K O (tRet t) (retS f) := fun H₀ A σ H ρ D Dd r q P => by
 refine h σ H ρ _ _ r.seen q fun v H1 x s1 o1 q1 => P.rt H1 v x (r.st.trans s1) (o1.ahead r.ok r.p0 r.st) q1
def asgS (i : Nat) (f : DE) : DS := fun Dd ρ => f ρ fun r => match r with
 | .o d => flat d = true ∧ Dd.nx (ρ.set i (some (.im d)))
 | .n ds => flats ds = true ∧ Dd.nx (ρ.set i (some (.own ds)))
theorem sd_asg {i : Nat} {t : TE} {f : DE} (h : ED K O t f) : SD K O (tAsg t (gName i)) (asgS i f) := fun H₀ A σ H ρ D Dd r q P => by
 refine h σ H ρ _ _ r.seen q fun v H1 x s1 o1 q1 => ?_
 cases x with
 | o d =>
   obtain ⟨fl, q1⟩ := q1
   exact P.nx _ _ H1 _ ((r.stp s1).setIm (Is.flat (TupStay.refl H1) o1 fl)) (.setIm s1) q1
 | n ds =>
   obtain ⟨fl, q1⟩ := q1
   obtain ⟨a, xs, rfl, hn, hl, hs⟩ := o1
   exact P.nx _ _ H1 _ (r.setOwn s1 hn hl hs fl) (.setOwn s1 hn) q1
end
end L3
namespace L3
open PySem PySem.Spec
open PyProof.Rows hiding St
open L2
def GR (K : PySem.W.Frag) (O : Ob) (t : TG) (g : DG) : Prop :=
 ∀ (H₀ : Hp) (A : Nat → Addr → Prop) (σ : St) (H : Hp) (ρ : DSt) (v : V) (d : PyData) (Q : St → Hp → Prop) (Qd : DSt → Prop), Rep K O H₀ A H σ ρ → flat d = true → Is K (unO O A) H v d → g d ρ Qd →
   (∀ A' σ' ρ', Rep K O H₀ A' H σ' ρ' → Frm O A H A' H → Qd ρ' → Q σ' H) → t v σ H Q
section
variable {K : PySem.W.Frag} {O : Ob}
theorem gr_name {i : Nat} : GR K O (gName i) (gN i) := fun H₀ A σ H ρ v d Q Qd r _ h q k => k _ _ _ (r.setIm h) (.setIm (.refl _ _)) q
def forGo (g : DG) (gb : DS) (Dd : DEnds) : List PyData → DSt → Prop
 | [], ρ => Dd.nx ρ
 | d :: ds, ρ => flat d = true ∧ g d ρ fun ρ2 => gb { Dd with nx := forGo g gb Dd ds, ct := forGo g gb Dd ds, bk := Dd.nx } ρ2
abbrev DJ := DSt → (List PyData → Prop) → Prop
def SrcR (K : PySem.W.Frag) (O : Ob) (wi : TI) (f : DJ) : Prop :=
 ∀ (H₀ : Hp) (A : Nat → Addr → Prop) (σ : St) (H : Hp) (ρ : DSt) (R : It → Hp → Prop) (Qd : List PyData → Prop), Rep K O H₀ A H σ ρ → f ρ Qd →
   (∀ (J : It) (H1 : Hp) (ds : List PyData) (B : Addr → Prop), Walk K O H H1 J ds B → (∀ a, B a → unO O A a) → Qd ds → R J H1) → wi σ H R
def newJ (f : DI) : DJ := fun ρ Q => f ρ fun fr ds => fr = true ∧ Q ds
theorem srcR_of {wi : TI} {f : DI} (h : SrcS K O wi f) : SrcR K O wi (newJ f) := fun H₀ A σ H ρ R Qd r q k => by
 refine h σ H ρ _ _ r.seen q fun J H1 ds B fr W hfr ⟨e, q1⟩ => k J H1 ds B W (fun a b => ⟨(W.hb a b).1, fun j z => ?_⟩) q1
 obtain ⟨_, ⟨xs, q, _⟩, _⟩ := r.own j a z
 rw [hfr e a b] at q; cases q
def forS (f : DJ) (g : DG) (gb : DS) : DS := fun Dd ρ => f ρ fun ds => forGo g gb Dd ds ρ
theorem Rep.tupStay {H₀ : Hp} {A A2 : Nat → Addr → Prop} {H1 H2 : Hp} {σ : St} {ρ : DSt} (r : Rep K O H₀ A H1 σ ρ) (f : Frm O A H1 A2 H2) : TupStay H1 H2 := fun a u hu e => by
 refine (f a u e ⟨fun m => ?_, fun j z => ?_⟩).1
 · have mm := r.ok.mutb H1 a u r.p e m
   obtain ⟨xs, e1 | ⟨o, e1⟩⟩ := hu
   · exact mm.1 xs e1
   · exact mm.2 o _ e1
 · obtain ⟨_, ⟨xs, q, ho⟩, _⟩ := r.own j a z
   rw [e] at q
   cases q
   obtain ⟨ys, e1 | ⟨o, e1⟩⟩ := hu
   · exact (ho ys).1 e1
   · exact (ho ys).2 o e1
theorem sd_for {wi : TI} {tg : TG} {tb : TS} {f : DJ} {g : DG} {gb : DS} (hs : SrcR K O wi f) (hg : GR K O tg g) (hb : SD K O tb gb) : SD K O (tFor wi tg tb) (forS f g gb) := fun H₀ A σ H ρ D Dd r q P => by
 refine hs H₀ A σ H ρ _ _ r q fun J H1 ds B W uB go => ?_
 have r1 := r.stp W.st
 have f1 : Frm O A H A H1 := .stp W.st
 refine ⟨fun i m σ2 H2 => m = ds.length - i ∧ i ≤ ds.length ∧ ∃ A2 ρ2, Rep K O H₀ A2 H2 σ2 ρ2 ∧ Frm O A H1 A2 H2 ∧ forGo g gb Dd (ds.drop i) ρ2, ⟨ds.length, rfl, Nat.zero_le _, A, ρ, r1, .refl, by simpa using go⟩, ?_⟩
 rintro i m σ2 H2 ⟨rfl, hi, A2, ρ2, r2, f2, go2⟩
 have kB : ∀ a o, B a → H1 a = some o → H2 a = some o := fun a o b e => (f2 a o e (uB a b)).1
 have ts : TupStay H1 H2 := r1.tupStay f2
 by_cases hlt : i < ds.length
 · right
   have hd : ds[i]? = some ds[i] := List.getElem?_eq_getElem hlt
   rw [List.drop_eq_getElem_cons hlt] at go2
   obtain ⟨fl, go2⟩ := go2
   obtain ⟨hgo, hy⟩ := W.item H2 i ds[i] kB ts hd (.inl fl)
   refine ⟨hgo, fun σ' H' => ∃ A' ρ', Rep K O H₀ A' H' σ' ρ' ∧ Frm O A H1 A' H' ∧ forGo g gb Dd (ds.drop (i + 1)) ρ', fun σ' H' ⟨A', ρ', x1, x2, x3⟩ => ⟨ds.length - (i + 1), by omega, rfl, hlt, A', ρ', x1, x2, x3⟩, fun x H3 y => ?_⟩
   obtain ⟨sm, ix⟩ := hy x H3 y
   have st3 : Stp O H2 H3 := .same r2.ok sm
   have r3 := r2.stp st3
   refine hg H₀ A2 σ2 H3 ρ2 x ds[i] _ _ r3 fl (Is.flat (TupStay.refl H3) ix fl) go2 fun A3 σ3 ρ3 r3' f3 q3 => ?_
   have f13 : Frm O A H1 A3 H3 := (f2.trans (.stp st3)).trans f3
   refine hb H₀ A3 σ3 H3 ρ3 _ _ r3' q3 ⟨fun A' σ' H' ρ' r' f' q' => ⟨A', ρ', r', f13.trans f', q'⟩, fun A' σ' H' ρ' r' f' q' => P.nx A' σ' H' ρ' r' (f1.trans (f13.trans f')) q', fun A' σ' H' ρ' r' f' q' => ⟨A', ρ', r', f13.trans f', q'⟩, P.rt⟩
 · left
   have e : i = ds.length := by omega
   subst e
   rw [List.drop_length] at go2
   exact ⟨W.stop H2 _ kB ts (Nat.le_refl _), P.nx A2 σ2 H2 ρ2 r2 (f1.trans f2) go2⟩
end
def spD (K : PySem.W.Frag) (φ : Ob → Prop) (n : Nat) (f : List PyData → (R → Prop) → Prop) : Sp := fun vs H Q _ =>
 ∃ (O : Ob) (ds : List PyData) (ws : List V) (Qr : R → Prop), O.Ok ∧ φ O ∧ O.P H ∧ ds.length = n ∧ vs = O.v :: ws ∧ IsAll K (unM O) H ws ds ∧ f ds Qr ∧ ∀ r, Qr r → ∀ v H', Stp O H H' → Out K O H H' v r → Q v H'
def dstart (N : List Str) (rs : List DV) : DSt := rs.map some ++ List.replicate (N.length - rs.length) none
section
variable {K : PySem.W.Frag} {O : Ob}
def calO (i : Nat) (n : Nat) (f : List PyData → (R → Prop) → Prop) (g : DA) : DE := fun ρ Q => ρ[i]? = some (some .ob) ∧ g ρ fun ds => ds.length = n ∧ f ds Q
theorem ed_callO {φ : Ob → Prop} {i n : Nat} {f : List PyData → (R → Prop) → Prop} {E : XK} {t : TA} {g : DA} (hφ : φ O) (h : AD K O t g) : ED K O (tCall (spD K φ n f) [] E (tCons (tVar i) t)) (calO i n f g) := fun σ H ρ Q Qd S q k => by
 obtain ⟨e, q⟩ := q
 obtain ⟨v, hv, hh⟩ := S.at_ i _ e
 refine ⟨v, hv, ?_⟩
 refine h σ H ρ _ _ S q fun vs H1 ds s1 is ⟨hn, q1⟩ => ?_
 show spD K φ n f ((v :: vs) ++ []) H1 Q E
 rw [List.append_nil]
 exact ⟨O, ds, vs, Qd, S.ok, hφ, s1.p S.p, hn, by rw [show v = O.v from hh], is, q1, fun r qr v H' s2 o2 => k v H' r (s1.trans s2) (o2.ahead S.ok S.p s1) qr⟩
theorem spD_len {φ : Ob → Prop} {n : Nat} {f : List PyData → (R → Prop) → Prop} {ps : List Str} (hn : ps.length = n + 1) : ∀ vs H Q E, spD K φ n f vs H Q E → vs.length = ps.length := fun vs H Q E zz => by obtain ⟨O, ds, ws, _, _, _, _, h, e, is, _⟩ := zz; rw [e, List.length_cons, is.length, h, hn]
end
end L3
namespace L3
open PySem PySem.Spec
open PyProof.Rows hiding St
open L2
section
variable {X : Cx}
def rEqD (K : PySem.W.Frag) (neg : Bool) : R2 := fun x y H Q => ∃ F G d e, Is K F H x d ∧ Is K G H y e ∧ d.canLay0 = true ∧ e.canLay0 = true ∧ d.depth ≤ 60 ∧ Q (.bl (if neg then !PyData.eqv d e else PyData.eqv d e)) H
theorem op_eqD (hu : X.A.units + 64 < cLine) : OpR X (compareOp .Eq) (rEqD X.K false) := by
 intro pins s σ H x y v u Q I rx ry h
 obtain ⟨F, G, d, e, i1, i2, h1, h2, h3, q⟩ := h
 obtain ⟨as, ra⟩ := i1.reads I rx
 obtain ⟨bs, rb⟩ := i2.reads I ry
 exact SeqAt.compareEq_reads ra rb h1 h2 (by omega) ⟨.bl _, H, I, rfl, q⟩
theorem op_neD (hu : X.A.units + 64 < cLine) : OpR X (compareOp .NotEq) (rEqD X.K true) := by
 intro pins s σ H x y v u Q I rx ry h
 obtain ⟨F, G, d, e, i1, i2, h1, h2, h3, q⟩ := h
 obtain ⟨as, ra⟩ := i1.reads I rx
 obtain ⟨bs, rb⟩ := i2.reads I ry
 exact SeqAt.compareNe_reads ra rb h1 h2 (by omega) ⟨.bl _, H, I, rfl, q⟩
def rRepr (K : PySem.W.Frag) : List V → Hp → VK → Prop := fun xs H Q => ∃ v F d, xs = [v] ∧ Is K F H v d ∧ d.showable = true ∧ d.hasDict = false ∧ d.depth ≤ 60 ∧ d.shown.length ≤ sizeLine ∧ Q (.str d.shown) H
theorem call_reprD (hg : X.A.guards = some []) (hu : X.A.units + 64 < cLine) : CallR X (.builtin "repr") (rRepr X.K) := by
 intro pins s σ H xs us Q I r h
 obtain ⟨v, F, d, rfl, i, h1, h2, h3, h4, q⟩ := h
 obtain ⟨u, rfl, ru⟩ := Vals.one r
 have fin : ∀ h' u tk, (∀ b o, s.heap.get? b = some o → h'.get? b = some o) → EP X pins σ Q (.str d.shown u) { s with heap := h', toks := tk } := fun h' u tk kk => ⟨.str _, H, I.kept kk, ⟨_, rfl⟩, q⟩
 have fin' : ∀ u tk, EP X pins σ Q (.str d.shown u) { s with toks := tk } := fun u tk => ⟨.str _, H, I.tok _, ⟨_, rfl⟩, q⟩
 obtain ⟨as, ra⟩ := i.reads I ru
 cases i with
 | none => cases ru; exact PySem.P.repr_of_none (fin' _ _)
 | bool b => cases ru; exact PySem.P.repr_of_bool (fin' _ _)
 | int n => obtain ⟨t, rfl⟩ := ru; exact PySem.P.repr_of_int (by simpa [PyData.showable] using h1) (fin' _ _)
 | str x => obtain ⟨t, rfl⟩ := ru; exact PySem.P.repr_of_str (fin' _ _) h4
 | list _ _ _ => cases ru; exact repr_of_reads' ra h1 (fun z => by rw [h2] at z; cases z) hg (by omega) (fun _ _ e => e) fin h4
 | tuple _ _ => cases ru; exact repr_of_reads' ra h1 (fun z => by rw [h2] at z; cases z) hg (by omega) (fun _ _ e => e) fin h4
end
end L3
namespace L3
open PySem PySem.Spec
open PyProof.Rows hiding St
open L2
def cutL {α : Type} (xs : List α) (lo hi : Option Int) : List α := (xs.drop (HT.sIx xs.length 0 lo)).take (HT.sIx xs.length xs.length hi - HT.sIx xs.length 0 lo)
section
variable {X : Cx}
def rCatT0 (K : PySem.W.Frag) : R2 := fun x y H Q => ∃ a b ys, x = .ref a ∧ y = .ref b ∧ SqT K H a [] ∧ SqT K H b ys ∧ Q (.ref b) H
theorem op_catT0 : OpR X (binaryOp .Add) (rCatT0 X.K) := by
 intro pins s σ H x y v u Q I rx ry h
 obtain ⟨a, b, ys, rfl, rfl, ha, hb, q⟩ := h
 cases rx
 cases ry
 obtain ⟨its, r1, p1, _⟩ := I.tuple ha
 obtain ⟨its2, r2, p2, _⟩ := I.tuple hb
 cases r1
 obtain ⟨⟨cls, dd, data, sl⟩, ho, hc, n, hd⟩ := id p1
 obtain ⟨⟨cls2, dd2, data2, sl2⟩, ho2, hc2, n2, hd2⟩ := id p2
 simp only at hc hd hc2 hd2
 subst hc hd hc2 hd2
 exact concat_meets ⟨_, ho, rfl⟩ ⟨_, ho2, rfl⟩ noFill_tuple_add seq_tuple_add PySem.F.slot_tuple_add PySem.F.entry_tuple_add (PySem.F.args_tuple_add_2 _ _)
   (tuple_addW0 a b _ its2.toArray n n2 dd dd2 sl sl2 (by simp)) ⟨ho, ho2, ⟨.ref b, H, I, rfl, q⟩⟩
end
end L3
namespace L3
open PySem PySem.Spec
open PyProof.Rows hiding St
open L2
section
variable {K : PySem.W.Frag} {O : Ob} {F : Addr → Prop} {H : Hp}
theorem isAll_atI {vs : List V} {ds : List PyData} {i : Int} {d : PyData} (h : IsAll K F H vs ds) (e : atI ds i = some d) : ∃ v, atI vs i = some v ∧ Is K F H v d := by
 unfold atI at e ⊢
 rw [h.length]
 cases q : ixN ds.length i with
 | none => rw [q] at e; cases e
 | some j =>
   rw [q] at e
   obtain ⟨v, hv, iv⟩ := h.get (i := j) e
   exact ⟨v, hv, iv⟩
theorem out_list {H : Hp} {p : Addr} {vs : List V} {ds : List PyData} (ok : O.Ok) (hp : H p = none) (h : IsAll K (unM O) H vs ds) : Stp O H (upd H p (.lst vs)) ∧ Out K O H (upd H p (.lst vs)) (.ref p) (.n ds) := by
 have s : Stp O H (upd H p (.lst vs)) := .new ok hp _
 exact ⟨s, p, vs, rfl, hp, upd_same, h.stp s (fun _ z => z) (fun _ z => z)⟩
theorem out_tup {H : Hp} {p : Addr} {vs : List V} {ds : List PyData} (ok : O.Ok) (hp : H p = none) (h : IsAll K (unM O) H vs ds) : Stp O H (upd H p (.tup vs)) ∧ Out K O H (upd H p (.tup vs)) (.ref p) (.o (.tuple ds)) := by
 have s : Stp O H (upd H p (.tup vs)) := .new ok hp _
 exact ⟨s, Is.tuple (.of upd_same) (h.stp s (fun _ z => z) (fun _ z => z))⟩
def okD (d : PyData) : Bool := d.canLay0 && decide (d.depth ≤ 60)
def eqF (neg : Bool) : PyData → PyData → Option R := fun d e => if (okD d && e.canLay0) = true then some (.o (.bool (if neg then !PyData.eqv d e else PyData.eqv d e))) else none
theorem opd_eq (neg : Bool) : OpD K O (rEqD K neg) (fn2 (eqF neg)) := fun H x y d e Q Qd ok p ix iy ⟨r, hr, q⟩ k => by
 unfold eqF at hr
 split at hr
 · rename_i hc
   cases hr
   simp only [Bool.and_eq_true, okD, decide_eq_true_eq] at hc
   exact ⟨_, _, d, e, ix, iy, hc.1.1, hc.2, hc.1.2, k _ H (.o _) (.refl _ _) (Is.bool _) q⟩
 · cases hr
def inF (neg : Bool) : PyData → PyData → Option R := fun d e => match d, e with
 | .str x, .str y => some (.o (.bool (if neg then !(!(Builtin.Str.occurrences y x 0 y.length 1).isEmpty) else !(Builtin.Str.occurrences y x 0 y.length 1).isEmpty)))
 | d, .list es => if (okD d && PyData.canLayAll0 es) = true then some (.o (.bool (if neg then !es.any (fun y => PyData.eqv y d) else es.any fun y => PyData.eqv y d))) else none
 | d, .tuple es => if (okD d && PyData.canLayAll0 es) = true then some (.o (.bool (if neg then !es.any (fun y => PyData.eqv y d) else es.any fun y => PyData.eqv y d))) else none
 | _, _ => none
def intF (g : Int → Int → PyData) : PyData → PyData → Option R
 | .int i, .int j => some (.o (g i j))
 | _, _ => none
theorem opd_int0 {g : Int → Int → V} {G : Int → Int → PyData} (h : ∀ i j H, Is K (unM O) H (g i j) (G i j)) : OpD K O (rI0 g) (fn2 (intF G)) := fun H x y d e Q Qd ok p ix iy ⟨r, hr, q⟩ k => by
 unfold intF at hr
 split at hr
 · cases ix
   cases iy
   cases hr
   exact ⟨_, _, rfl, rfl, k _ H (.o _) (.refl _ _) (h _ _ H) q⟩
 · cases hr
def intC (C : Int → Int → Prop) (g : Int → Int → PyData) : PyData → PyData → (R → Prop) → Prop := fun d e Q => ∃ i j, d = .int i ∧ e = .int j ∧ C i j ∧ Q (.o (g i j))
theorem opd_intC {C : Int → Int → Prop} {g : Int → Int → V} {G : Int → Int → PyData} (h : ∀ i j H, Is K (unM O) H (g i j) (G i j)) : OpD K O (rI C g) (intC C G) := fun H x y d e Q Qd ok p ix iy ⟨i, j, e1, e2, c, q⟩ k => by
 subst e1 e2
 cases ix
 cases iy
 exact ⟨i, j, rfl, rfl, c, k _ H (.o _) (.refl _ _) (h i j H) q⟩
theorem opd_sub : OpD K O (rI0 fun i j => .int (i - j)) (fn2 (intF fun i j => .int (i - j))) := opd_int0 fun _ _ _ => .int _
theorem opd_pow : OpD K O (rI CPow fun i j => .int (i ^ j.toNat)) (intC CPow fun i j => .int (i ^ j.toNat)) := opd_intC fun _ _ _ => .int _
def rAddU (K : PySem.W.Frag) : R2 := fun x y H Q => rI0 (fun i j => .int (i + j)) x y H Q ∨ (∃ i j, x = .str i ∧ y = .str j ∧ i.length + j.length ≤ sizeLine ∧ Q (.str (i ++ j)) H) ∨ rCat x y H Q ∨ rCatT K x y H Q ∨ rCatT0 K x y H Q
theorem op_addU {X : Cx} : OpR X (binaryOp .Add) (rAddU X.K) := op_add.or (op_add_str.or (op_cat.or (op_catT.or op_catT0)))
def addF : PyData → PyData → Option R := fun d e => match d, e with
 | .int i, .int j => some (.o (.int (i + j)))
 | .str x, .str y => if x.length + y.length ≤ sizeLine then some (.o (.str (x ++ y))) else none
 | .list a, .list b => if a.length + b.length ≤ sizeLine then some (.n (a ++ b)) else none
 | .tuple a, .tuple b => if a.length + b.length ≤ sizeLine then some (.o (.tuple (a ++ b))) else none
 | _, _ => none
theorem opd_add : OpD K O (rAddU K) (fn2 addF) := fun H x y d e Q Qd ok p ix iy ⟨r, hr, q⟩ k => by
 unfold addF at hr
 split at hr
 · cases ix
   cases iy
   cases hr
   exact .inl ⟨_, _, rfl, rfl, k _ H (.o _) (.refl _ _) (Is.int _) q⟩
 · split at hr
   · rename_i hz
     cases ix
     cases iy
     cases hr
     exact .inr (.inl ⟨_, _, rfl, rfl, hz, k _ H (.o _) (.refl _ _) (Is.str _) q⟩)
   · cases hr
 · split at hr
   · rename_i hz
     cases hr
     cases ix with
     | list f1 h1 s1 =>
       cases iy with
       | list f2 h2 s2 =>
         refine .inr (.inr (.inl ⟨_, _, _, _, rfl, rfl, h1, h2, by rw [s1.length, s2.length]; exact hz, fun p' hp => ?_⟩))
         obtain ⟨a1, a2⟩ := out_list ok hp (s1.append s2)
         exact k _ _ _ a1 a2 q
   · cases hr
 · split at hr
   · rename_i hz
     cases hr
     cases ix with
     | tuple h1 s1 =>
       cases iy with
       | tuple h2 s2 =>
         rename_i a xs b ys
         cases xs with
         | nil =>
           cases s1
           exact .inr (.inr (.inr (.inr ⟨a, b, ys, rfl, rfl, h1, h2, k _ H (.o _) (.refl _ _) (Is.tuple h2 s2) q⟩)))
         | cons z zs =>
           refine .inr (.inr (.inr (.inl ⟨a, b, _, ys, rfl, rfl, h1, h2, by simp, by rw [s1.length, s2.length]; exact hz, fun e => ?_, fun _ p' hp => ?_⟩)))
           · subst e
             cases s2
             rw [List.append_nil] at q
             exact k _ H (.o _) (.refl _ _) (Is.tuple h1 s1) q
           · obtain ⟨a1, a2⟩ := out_tup ok hp (s1.append s2)
             exact k _ _ _ a1 a2 q
   · cases hr
 · cases hr
def idxF : PyData → PyData → Option R := fun d e => match d, e with
 | .list ds, .int i => (atI ds i).map .o
 | .tuple ds, .int i => (atI ds i).map .o
 | .str x, .int i => if x.length ≤ sizeLine then (atI x.cps.toList i).map fun c => .o (.str (sg c)) else none
 | _, _ => none
theorem opd_idx : OpD K O (rIx K) (fn2 idxF) := fun H x y d e Q Qd ok p ix iy ⟨r, hr, q⟩ k => by
 unfold idxF at hr
 split at hr
 · obtain ⟨z, hz, rfl⟩ := Option.map_eq_some_iff.mp hr
   cases iy
   cases ix with
   | list f1 h1 s1 =>
     obtain ⟨v, hv, iv⟩ := isAll_atI s1 hz
     exact .inl ⟨_, _, _, v, rfl, rfl, .of h1, hv, k v H (.o z) (.refl _ _) iv q⟩
 · obtain ⟨z, hz, rfl⟩ := Option.map_eq_some_iff.mp hr
   cases iy
   cases ix with
   | tuple h1 s1 =>
     obtain ⟨v, hv, iv⟩ := isAll_atI s1 hz
     exact .inr (.inl ⟨_, _, _, v, rfl, rfl, h1, hv, k v H (.o z) (.refl _ _) iv q⟩)
 · split at hr
   · rename_i hl
     obtain ⟨c, hc, rfl⟩ := Option.map_eq_some_iff.mp hr
     cases iy
     cases ix
     exact .inr (.inr ⟨_, _, c, rfl, rfl, hl, hc, k _ H (.o _) (.refl _ _) (Is.str _) q⟩)
   · cases hr
 · cases hr
def lenF : List PyData → Option R
 | [.str x] => if x.length ≤ sizeLine then some (.o (.int x.length)) else none
 | [.list ds] => some (.o (.int ds.length))
 | [.tuple ds] => some (.o (.int ds.length))
 | _ => none
theorem isAll_one {vs : List V} {d : PyData} (h : IsAll K F H vs [d]) : ∃ v, vs = [v] ∧ Is K F H v d := by
 cases h with
 | cons h1 h2 => cases h2; exact ⟨_, rfl, h1⟩
def reprF : List PyData → Option R
 | [d] => if (d.showable && !d.hasDict && decide (d.depth ≤ 60) && decide (d.shown.length ≤ sizeLine)) = true then some (.o (.str d.shown)) else none
 | _ => none
theorem cd_repr : CallD K O (rRepr K) (fn1 reprF) := fun H vs ds Q Qd ok p is ⟨r, hr, q⟩ k => by
 unfold reprF at hr
 split at hr
 · split at hr
   · rename_i hc
     cases hr
     obtain ⟨v, rfl, iv⟩ := isAll_one is
     simp only [Bool.and_eq_true, decide_eq_true_eq, Bool.not_eq_true'] at hc
     exact ⟨v, _, _, rfl, iv, hc.1.1.1, hc.1.1.2, hc.1.2, hc.2, k _ H (.o _) (.refl _ _) (Is.str _) q⟩
   · cases hr
 · cases hr
end
end L3
namespace L3
open PySem PySem.Spec
open PyProof.Rows hiding St
open L2
structure Ctx3 {ι : Type} (P : Program) (w : World) (K : PySem.W.Frag) (mg : Str → Option Value) (base : Heap) (k : Nat) (X : ι → Cx) : Prop where
 hP : ∀ i, (X i).prog = P
 hw : ∀ i, (X i).w = w
 hK : ∀ i, (X i).K = K
 hmg : ∀ i, (X i).mg = mg
 hb : ∀ i, (X i).base = base
 calm : ∀ i, (X i).calm = true
 room : ∀ i, Room k (X i).A
 xe : ∀ i, (X i).xe = fun _ _ => False
def E3 {ι κ : Type} (K : PySem.W.Frag) (X : ι → Cx) (O : κ → Ob) (e : Expr) (f : DE) : Prop := ∃ t, (∀ i, PE (X i) e t) ∧ ∀ j, ED K (O j) t f
def T3 {ι κ : Type} (K : PySem.W.Frag) (X : ι → Cx) (O : κ → Ob) (e : Expr) (f : DT) : Prop := ∃ t, (∀ i, PT (X i) e t) ∧ ∀ j, TD K (O j) t f
def W3 {ι κ : Type} (K : PySem.W.Frag) (X : ι → Cx) (O : κ → Ob) (e : Expr) (f : DT) : Prop := ∃ t, (∀ i, PW (X i) e t) ∧ ∀ j, TD K (O j) t f
def A3 {ι κ : Type} (K : PySem.W.Frag) (X : ι → Cx) (O : κ → Ob) (es : List Expr) (f : DA) : Prop := ∃ t, (∀ i, PA (X i) es t) ∧ ∀ j, AD K (O j) t f
def I3 {ι κ : Type} (K : PySem.W.Frag) (X : ι → Cx) (O : κ → Ob) (tg e : Expr) (f : DI) : Prop := ∃ t, (∀ i, PI (X i) tg e t) ∧ ∀ j, SrcS K (O j) t f
def J3 {ι κ : Type} (K : PySem.W.Frag) (X : ι → Cx) (O : κ → Ob) (tg e : Expr) (f : DJ) : Prop := ∃ t, (∀ i, PI (X i) tg e t) ∧ ∀ j, SrcR K (O j) t f
def S3 {ι κ : Type} (K : PySem.W.Frag) (X : ι → Cx) (O : κ → Ob) (s : Stmt) (g : DS) : Prop := ∃ t, (∀ i, PS (X i) s t) ∧ ∀ j, SD K (O j) t g
def Ss3 {ι κ : Type} (K : PySem.W.Frag) (X : ι → Cx) (O : κ → Ob) (s : List Stmt) (g : DS) : Prop := ∃ t, (∀ i, PSs (X i) s t) ∧ ∀ j, SD K (O j) t g
def G3 {ι : Type} (K : PySem.W.Frag) (X : ι → Cx) (h : Nat) (tg : Expr) (g : DG) : Prop := ∃ t, (∀ i, PG (X i) tg t) ∧ (∀ O : Ob, GS K O t g) ∧ (∀ O : Ob, GR K O t g) ∧ OwnG h t
section
variable {ι κ : Type} {P : Program} {w : World} {K : PySem.W.Frag} {mg : Str → Option Value} {base : Heap} {k : Nat} {X : ι → Cx} {O : κ → Ob} {a b c : Expr} {fa fb fc : DE} {pos : Pos}
theorem e_var (n : Nat) {x : Str} (hN : ∀ i, (X i).N[n]? = some x := by intro i; rfl) (hv : ∀ i, Vis (X i).env.scope x := by intro i; first | exact Or.inl rfl | exact Or.inr (Or.inl rfl) | exact Or.inr (Or.inr rfl))
   (hd : (x == ("__debug__" : Str)) = false := by decide) (hcd : (x == ("__classdict__" : Str)) = false := by decide) : E3 K X O (.Name x pos) (vD n) := ⟨_, fun i => pe_var (hN i) (hv i) hd hcd, fun j => ed_var⟩
theorem e_int {n : Int} {j : Nat} : E3 K X O (.Constant (.int n) j pos) (cD (.int n)) := ⟨_, fun i => pe_int, fun j => ed_int⟩
theorem e_str {x : Str} {j : Nat} : E3 K X O (.Constant (.str x) j pos) (cD (.str x)) := ⟨_, fun i => pe_str, fun j => ed_str⟩
theorem e_bl {x : Bool} {j : Nat} : E3 K X O (.Constant (.bool x) j pos) (cD (.bool x)) := ⟨_, fun i => pe_bl, fun j => ed_bl⟩
theorem e_op {op : Operator} {r : R2} {F : PyData → PyData → (R → Prop) → Prop} (ho : ∀ i, OpR (X i) (binaryOp op) r) (hd : ∀ j, OpD K (O j) r F) (ha : E3 K X O a fa) (hb : E3 K X O b fb) : E3 K X O (.BinOp a op b pos) (opDE F fa fb) :=
 let ⟨_, p1, d1⟩ := ha; let ⟨_, p2, d2⟩ := hb; ⟨_, fun i => pe_op (ho i) (p1 i) (p2 i), fun j => ed_op (hd j) (d1 j) (d2 j)⟩
theorem e_add (C : Ctx3 P w K mg base k X) (ha : E3 K X O a fa) (hb : E3 K X O b fb) : E3 K X O (.BinOp a .Add b pos) (opDE (fn2 addF) fa fb) := e_op (fun i => by have h := op_addU (X := X i); rw [C.hK] at h; exact h) (fun _ => opd_add) ha hb
theorem e_sub (ha : E3 K X O a fa) (hb : E3 K X O b fb) : E3 K X O (.BinOp a .Sub b pos) (opDE (fn2 (intF fun i j => .int (i - j))) fa fb) := e_op (fun i => op_sub) (fun _ => opd_sub) ha hb
theorem e_pow (ha : E3 K X O a fa) (hb : E3 K X O b fb) : E3 K X O (.BinOp a .Pow b pos) (opDE (intC CPow fun i j => .int (i ^ j.toNat)) fa fb) := e_op (fun i => op_pow) (fun _ => opd_pow) ha hb
theorem e_cmp {op : CmpOp} {r : R2} {F : PyData → PyData → (R → Prop) → Prop} (ho : ∀ i, OpR (X i) (compareOp op) r) (hd : ∀ j, OpD K (O j) r F) (ha : E3 K X O a fa) (hb : E3 K X O b fb) (hm : behindInMarks op b = false) : E3 K X O (.Compare a [op] [b] pos) (opDE F fa fb) :=
 let ⟨_, p1, d1⟩ := ha; let ⟨_, p2, d2⟩ := hb; ⟨_, fun i => pe_cmpR (ho i) (p1 i) (p2 i) hm, fun j => ed_op (hd j) (d1 j) (d2 j)⟩
theorem t_cmp {op : CmpOp} {r : R2} {F : PyData → PyData → (R → Prop) → Prop} (ho : ∀ i, OpR (X i) (compareOp op) r) (hd : ∀ j, OpD K (O j) r F) (ha : E3 K X O a fa) (hb : E3 K X O b fb) (hm : behindInMarks op b = false) : T3 K X O (.Compare a [op] [b] pos) (bD (opDE F fa fb)) :=
 let ⟨_, p1, d1⟩ := ha; let ⟨_, p2, d2⟩ := hb; ⟨_, fun i => pt_cmpR (ho i) (p1 i) (p2 i) hm, fun j => td_val (ed_op (hd j) (d1 j) (d2 j))⟩
theorem oR_eq (C : Ctx3 P w K mg base k X) : ∀ i, OpR (X i) (compareOp .Eq) (rEqD K false) := fun i => by have h := op_eqD (X := X i) (C.room i).units; rw [C.hK] at h; exact h
theorem oR_ne (C : Ctx3 P w K mg base k X) : ∀ i, OpR (X i) (compareOp .NotEq) (rEqD K true) := fun i => by have h := op_neD (X := X i) (C.room i).units; rw [C.hK] at h; exact h
theorem e_eq (C : Ctx3 P w K mg base k X) (ha : E3 K X O a fa) (hb : E3 K X O b fb) : E3 K X O (.Compare a [.Eq] [b] pos) (opDE (fn2 (eqF false)) fa fb) := e_cmp (oR_eq C) (fun _ => opd_eq false) ha hb (nomark b)
theorem t_ne (C : Ctx3 P w K mg base k X) (ha : E3 K X O a fa) (hb : E3 K X O b fb) : T3 K X O (.Compare a [.NotEq] [b] pos) (bD (opDE (fn2 (eqF true)) fa fb)) := t_cmp (oR_ne C) (fun _ => opd_eq true) ha hb (nomark b)
variable {ft fu : DT} {rest : List Expr}
theorem t_val (ha : E3 K X O a fa) (he : ∀ i whole, isTrue a (X i).env whole = (do let v ← whole; standAt a.pos; holding [v] (truthy v)) := by intro _ _; rfl) : T3 K X O a (bD fa) := let ⟨_, p, d⟩ := ha; ⟨_, fun i => pt_val (p i) (he i), fun j => td_valB (d j)⟩
theorem t_not (h : T3 K X O a ft) : T3 K X O (.UnaryOp .Not a pos) (notT ft) := let ⟨_, p, d⟩ := h; ⟨_, fun i => pt_not (p i), fun j => td_not (d j)⟩
theorem w_or1 (h : T3 K X O a ft) : W3 K X O (.BoolOp .Or [a] pos) ft := let ⟨_, p, d⟩ := h; ⟨_, fun i => pw_or1 (p i), d⟩
theorem w_or (h : T3 K X O a ft) (h' : W3 K X O (.BoolOp .Or (b :: rest) pos) fu) : W3 K X O (.BoolOp .Or (a :: b :: rest) pos) (orT ft fu) := let ⟨_, p, d⟩ := h; let ⟨_, p2, d2⟩ := h'; ⟨_, fun i => pw_or (p i) (p2 i), fun j => td_or (d j) (d2 j)⟩
theorem t_w (h : W3 K X O a ft) : T3 K X O a ft := let ⟨_, p, d⟩ := h; ⟨_, fun i => (p i).pt, d⟩
variable {es : List Expr} {ga : DA}
theorem a_nil : A3 K X O [] aNil := ⟨_, fun i => pa_nil, fun j => ad_nil⟩
theorem a_cons (ha : E3 K X O a fa) (hr : A3 K X O es ga) (hs : ∀ i, starEach (a :: es) (X i).env = (false, eval a (X i).env) :: starEach es (X i).env := by intro i; rfl) : A3 K X O (a :: es) (aCons fa ga) := let ⟨_, p, d⟩ := ha; let ⟨_, p2, d2⟩ := hr; ⟨_, fun i => pa_cons (p i) (p2 i) (hs i), fun j => ad_cons (d j) (d2 j)⟩
theorem e_lst (h : A3 K X O es ga) : E3 K X O (.List es pos) (lstD ga) := let ⟨_, p, d⟩ := h; ⟨_, fun i => pe_lst (p i), fun j => ed_lst (d j)⟩
theorem e_idx (C : Ctx3 P w K mg base k X) (ha : E3 K X O a fa) (hb : E3 K X O b fb) (hs : PlainIx b := by intro _ _; rfl) : E3 K X O (.Subscript a b pos) (opDE (fn2 idxF) fa fb) :=
 let ⟨_, p1, d1⟩ := ha; let ⟨_, p2, d2⟩ := hb; ⟨tOp (rIx K) _ _, fun i => by have h := pe_ix (pos := pos) (ix_seq (X := X i)) (p1 i) (p2 i) hs; rw [C.hK] at h; exact h, fun j => ed_op opd_idx (d1 j) (d2 j)⟩
theorem e_blt {x : Str} {id : String} {r : List V → Hp → VK → Prop} {F : List PyData → (R → Prop) → Prop} {p : Pos} (C : Ctx3 P w K mg base k X) (hc : ∀ i, CallR (X i) (.builtin id) r) (hd : ∀ j, CallD K (O j) r F) (hv : bootBuiltins x = some (.builtin id)) (hm : mg x = none) (ha : A3 K X O (a :: es) ga)
   (hg : ∀ i, Gl (X i) x := by intro i; rfl) (hn : x ≠ "__name__" := by decide) (hdb : (x == ("__debug__" : Str)) = false := by decide) (he : ∀ i, starEach (a :: es) (X i).env = (false, eval a (X i).env) :: starEach es (X i).env := by intro i; rfl) (hpl : ∀ i, (backTo pos (starEach es (X i).env)).any (·.1) = false := by intro i; rfl) :
   E3 K X O (.Call (.Name x p) (a :: es) [] pos) (callDE F ga) := let ⟨_, q, d⟩ := ha; ⟨_, fun i => pe_callB (hc i) (hg i) (by rw [C.hmg]; exact hm) hv (q i) hn hdb (he i) (hpl i), fun j => ed_callB (hd j) (d j)⟩
end
end L3
namespace L3
open PySem PySem.Spec
open PyProof.Rows hiding St
open L2
theorem bt_len : bootBuiltins "len" = some (.builtin "len") := by decide +kernel
theorem bt_repr : bootBuiltins "repr" = some (.builtin "repr") := by decide +kernel
structure Blt (mg : Str → Option Value) : Prop where
 len : mg "len" = none
 all : mg "all" = none
 any : mg "any" = none
 sorted : mg "sorted" = none
 min : mg "min" = none
 max : mg "max" = none
 repr : mg "repr" = none
 int : mg "int" = none
 list : mg "list" = none
 tuple : mg "tuple" = none
 range : mg "range" = none
 set : mg "set" = none
 isinstance : mg "isinstance" = none
 enumerate : mg "enumerate" = none
 zip : mg "zip" = none
 reversed : mg "reversed" = none
 str : mg "str" = none
 sum : mg "sum" = none
 dict : mg "dict" = none
 bool : mg "bool" = none
structure Def3 (P : Program) (w : World) (K : PySem.W.Frag) (mg : Str → Option Value) (base : Heap) (k : Nat) (x : Str) (ps : List Str) (sp : Sp) : Prop where
 ex : ∃ f fd, FnOk P w K mg base CX0 k f fd ps sp ∧ mg x = some (.ref f) ∧ PySem.W.keepIn K (.ref f) = true ∧ Binds K fd ps []
structure Top3 (K : PySem.W.Frag) (mg : Str → Option Value) (x : Str) (st : Stmt) : Prop where
 ex : ∃ f fd, Fun K x x st f fd ∧ mg x = some (.ref f)
structure CIx where
 C : Addr
 s : Shared
 H : Hp
 ex : List Addr
def compX {ι : Type} (X : ι → Cx) (scope : Scope) (N' : List Str) : ι × CIx → Cx := fun p => compCx (X p.1) scope N' p.2.C p.2.s p.2.H p.2.ex
def compO {κ : Type} (O : κ → Ob) : { p : κ × (Addr × List V) // ¬ (O p.1).M p.2.1 } → Ob := fun p => (O p.1.1).plus p.1.2.1 (.lst p.1.2.2)
def F3 {ι κ : Type} (K : PySem.W.Frag) (X : ι → Cx) (O : κ → Ob) (ifs : List Expr) (f : DT) : Prop := ∃ t, (∀ i, PF (X i) ifs t) ∧ ∀ j, TD K (O j) t f
def yesD : DT := fun _ Q => Q true
section
variable {ι κ : Type} {P : Program} {w : World} {K : PySem.W.Frag} {mg : Str → Option Value} {base : Heap} {k : Nat} {X : ι → Cx} {O : κ → Ob} {a b c tg : Expr} {fa fb fc : DE} {pos p : Pos} {es : List Expr} {ga : DA}
theorem Ctx3.comp (C : Ctx3 P w K mg base k X) (scope : Scope) (N' : List Str) : Ctx3 P w K mg base k (compX X scope N') := ⟨fun i => C.hP i.1, fun i => C.hw i.1, fun i => C.hK i.1, fun i => C.hmg i.1, fun i => C.hb i.1, fun i => C.calm i.1, fun i => C.room i.1, fun _ => rfl⟩
theorem e_repr (C : Ctx3 P w K mg base k X) (B : Blt mg) (ha : A3 K X O [a] ga) (hg : ∀ i, Gl (X i) "repr" := by intro i; rfl) (he : ∀ i, starEach [a] (X i).env = (false, eval a (X i).env) :: starEach [] (X i).env := by intro i; rfl) : E3 K X O (.Call (.Name "repr" p) [a] [] pos) (callDE (fn1 reprF) ga) :=
 e_blt C (fun i => by have h := call_reprD (X := X i) (C.room i).gd (C.room i).units; rw [C.hK] at h; exact h) (fun _ => cd_repr) bt_repr B.repr ha hg (by decide) (by decide) he
theorem e_callO {k' n : Nat} (v : Nat) {x y : Str} {py : Pos} {ps : List Str} {φ : Ob → Prop} {F : List PyData → (R → Prop) → Prop} (C : Ctx3 P w K mg base k X) (D : Def3 P w K mg base k' x ps (spD K φ n F)) (hφ : ∀ j, φ (O j)) (ha : A3 K X O es ga) (hk : k' ≤ k := by decide) (hg : ∀ i, Gl (X i) x := by intro i; rfl)
   (hN : ∀ i, (X i).N[v]? = some y := by intro i; rfl) (hv : ∀ i, Vis (X i).env.scope y := by intro i; first | exact Or.inl rfl | exact Or.inr (Or.inl rfl) | exact Or.inr (Or.inr rfl)) (hd : (y == ("__debug__" : Str)) = false := by decide) (hcd : (y == ("__classdict__" : Str)) = false := by decide)
   (hdb : (x == ("__debug__" : Str)) = false := by decide) (he : ∀ i, starEach (.Name y py :: es) (X i).env = (false, eval (.Name y py) (X i).env) :: starEach es (X i).env := by intro i; rfl) (hpl : ∀ i, (backTo pos (starEach es (X i).env)).any (·.1) = false := by intro i; rfl) :
   E3 K X O (.Call (.Name x p) (.Name y py :: es) [] pos) (calO v n F ga) := by
 obtain ⟨f, fd, G, m, kp, bn⟩ := D.ex
 obtain ⟨t, q, d⟩ := ha
 refine ⟨tCall (spD K φ n F) [] E0 (tCons (tVar v) t), fun i => ?_, fun j => ed_callO (hφ j) (d j)⟩
 have G' : FnOk (X i).prog (X i).w (X i).K (X i).mg (X i).base CX0 k f fd ps (spD K φ n F) := by rw [C.hP, C.hw, C.hK, C.hmg, C.hb]; exact G.mono hk
 exact pe_call G' (C.room i) (hg i) (by rw [C.hmg]; exact m) (by rw [C.hK]; exact kp) (by rw [C.hK]; exact bn) .nil pass0 (pa_cons (pe_var (hN i) (hv i) hd hcd) (q i) (he i)) hdb (he i) (hpl i)
theorem i_r1 (C : Ctx3 P w K mg base k X) (B : Blt mg) (ha : A3 K X O [a] ga) (hg : ∀ i, Gl (X i) "range" := by intro i; rfl) (hs : ∀ i, starEach [a] (X i).env = [(false, eval a (X i).env)] := by intro i; rfl) : I3 K X O tg (.Call (.Name "range" p) [a] [] pos) (srcR1 ga) :=
 let ⟨_, q, d⟩ := ha; ⟨_, fun i => pi_range1 (hg i) (by rw [C.hmg]; exact B.range) (q i) (hs i), fun j => src_rng1 (d j)⟩
theorem j_new {fi : DI} (h : I3 K X O tg a fi) : J3 K X O tg a (newJ fi) := let ⟨_, p, d⟩ := h; ⟨_, p, fun j => srcR_of (d j)⟩
theorem g_name {h : Nat} (n : Nat) {x : Str} (hlt : n < h := by decide) (hN : ∀ i, (X i).N.Nodup := by intro i; exact of_decide_eq_true (by kernel_rfl)) (hi : ∀ i, (X i).N[n]? = some x := by intro i; rfl) (hx : ∀ i, Loc (X i).env.scope x := by intro i; first | exact Or.inl rfl | exact Or.inr rfl)
   (hf : ∀ i, (X i).fn x = true ∨ (X i).env.scope.names.lookup x = some .local := by intro i; first | exact .inl rfl | exact .inr rfl) : G3 K X h (.Name x pos) (gN n) := ⟨_, fun i => pg_name (hN i) (hi i) (hx i) (hf i), fun _ => gs_name, fun _ => gr_name, own_name hlt⟩
theorem f_nil {O' : κ → Ob} : F3 K X O' [] yesD := ⟨_, fun i => pf_nil, fun j σ H ρ Q Qd S h k => k true H (.refl _ _) h⟩
variable {st : Stmt} {sts : List Stmt} {g1 g2 : DS} {ft : DT}
theorem ss_nil : Ss3 K X O [] (fun Dd ρ => Dd.nx ρ) := ⟨_, fun i => pss_nil, fun j => sd_next⟩
theorem ss_one (h : S3 K X O st g1) : Ss3 K X O [st] g1 := let ⟨_, p, d⟩ := h; ⟨_, fun i => pss_one (p i), d⟩
theorem ss_cons (h : S3 K X O st g1) (h' : Ss3 K X O sts g2) : Ss3 K X O (st :: sts) (seqD g1 g2) := let ⟨_, p, d⟩ := h; let ⟨_, p2, d2⟩ := h'; ⟨_, fun i => pss_cons (p i) (p2 i), fun j => sd_seq (d j) (d2 j)⟩
theorem s_ret (ha : E3 K X O a fa) : S3 K X O (.Return (some a) pos) (retS fa) := let ⟨_, p, d⟩ := ha; ⟨_, fun i => ps_ret (p i), fun j => sd_ret (d j)⟩
theorem s_if {sa sb : List Stmt} (hc : T3 K X O c ft) (h : Ss3 K X O sa g1) (h' : Ss3 K X O sb g2) : S3 K X O (.If c sa sb pos) (ifS ft g1 g2) := let ⟨_, p, d⟩ := hc; let ⟨_, p1, d1⟩ := h; let ⟨_, p2, d2⟩ := h'; ⟨_, fun i => ps_if (p i) (p1 i) (p2 i), fun j => sd_if (d j) (d1 j) (d2 j)⟩
theorem s_set (n : Nat) {x : Str} {px : Pos} (ha : E3 K X O a fa) (hN : ∀ i, (X i).N.Nodup := by intro i; exact of_decide_eq_true (by kernel_rfl)) (hi : ∀ i, (X i).N[n]? = some x := by intro i; rfl) (hx : ∀ i, Loc (X i).env.scope x := by intro i; first | exact Or.inl rfl | exact Or.inr rfl)
   (hs : ∀ i, swapsWith a (some (.Name x px)) pos.line (X i).env = pure false := by intro i; rfl) (hf : ∀ i, (X i).fn x = true ∨ (X i).env.scope.names.lookup x = some .local := by intro i; first | exact .inl rfl | exact .inr rfl) : S3 K X O (.Assign [.Name x px] a pos) (asgS n fa) :=
 let ⟨_, p, d⟩ := ha; ⟨_, fun i => ps_set (hN i) (hi i) (hx i) (p i) (hs i) (hf i), fun j => sd_asg (d j)⟩
theorem s_setC (n : Nat) {x : Str} {px p0 : Pos} {elt iter : Expr} {ifs : List Expr} {scope : Scope} {fi : DI} {g : DG} {ft : DT} {fe : DE} (h : Nat) (N' : List Str) (C : Ctx3 P w K mg base k X) (S : ∀ i, ScopeOk h N' (X i).N scope (X i).env.scope) (hs : I3 K X O tg iter fi)
   (hg : G3 K (compX X scope N') h tg g) (hf : F3 K (compX X scope N') (compO O) ifs ft) (he : E3 K (compX X scope N') (compO O) elt fe) (hN : ∀ i, (X i).N.Nodup := by intro i; exact of_decide_eq_true (by kernel_rfl)) (hi : ∀ i, (X i).N[n]? = some x := by intro i; rfl) (hx : ∀ i, (X i).env.scope.names.lookup x = some .local := by intro i; rfl)
   (hsw : ∀ i, swapsWith (.ListComp elt [⟨tg, iter, ifs, 0⟩] scope p0) (some (.Name x px)) pos.line (X i).env = pure true := by intro i; rfl) (hset : ∀ i x, foldedSetIterable iter (X i).env x = pure x := by intro _ _; rfl) :
   S3 K X O (.Assign [.Name x px] (.ListComp elt [⟨tg, iter, ifs, 0⟩] scope p0) pos) (asgS n (compD h fi g ft fe)) := by
 obtain ⟨ti, p1, d1⟩ := hs
 obtain ⟨tg', p2, d2, _, ow⟩ := hg
 obtain ⟨tf, p3, d3⟩ := hf
 obtain ⟨te, p4, d4⟩ := he
 exact ⟨_, fun i => ps_setComp (hN i) (hi i) (hx i) (hsw i) h (S i) (C.calm i) (p1 i) (fun c s H ex => p2 (i, ⟨c, s, H, ex⟩)) ow (fun c s H ex => p3 (i, ⟨c, s, H, ex⟩)) (fun c s H ex => p4 (i, ⟨c, s, H, ex⟩)) (hset i), fun j => sd_asg (ed_comp (d1 j) d2 (fun D xs nm => d3 ⟨(j, (D, xs)), nm⟩) fun D xs nm => d4 ⟨(j, (D, xs)), nm⟩)⟩
theorem passes_never {X : Cx} (h : X.xe = fun _ _ => False) : PassesOwn (model X.prog X.w) X.A X.env X.xe := by rw [h]; exact PassesOwn.never
theorem s_for {iter : Expr} {body : List Stmt} {fj : DJ} {g : DG} {hh : Nat} (C : Ctx3 P w K mg base k X) (hi : J3 K X O tg iter fj) (hg : G3 K X hh tg g) (hb : Ss3 K X O body g1) (hs : ∀ i x, foldedSetIterable iter (X i).env x = pure x := by intro _ _; rfl) : S3 K X O (.For tg iter body [] pos) (forS fj g g1) := by
 obtain ⟨ti, p1, d1⟩ := hi
 obtain ⟨tg', p2, _, d2, _⟩ := hg
 obtain ⟨tb, p3, d3⟩ := hb
 exact ⟨_, fun i => ps_for (passes_never (C.xe i)) (C.calm i) (p1 i) (p2 i) (p3 i) (hs i), fun j => sd_for (d1 j) (d2 (O j)) (d3 j)⟩
end
theorem len1 {fd : FuncData} {p0 : Str} {us : List Value} (hl : us.length = 1) (h : ∀ u0, bindArgs fd ⟨[u0], []⟩ = pure ([p0].zip [u0])) : bindArgs fd ⟨us, []⟩ = pure ([p0].zip us) := by
 match us, hl with
 | [u0], _ => exact h u0
theorem len2 {fd : FuncData} {p0 p1 : Str} {us : List Value} (hl : us.length = 2) (h : ∀ u0 u1, bindArgs fd ⟨[u0, u1], []⟩ = pure ([p0, p1].zip [u0, u1])) : bindArgs fd ⟨us, []⟩ = pure ([p0, p1].zip us) := by
 match us, hl with
 | [u0, u1], _ => exact h u0 u1
theorem len3 {fd : FuncData} {p0 p1 p2 : Str} {us : List Value} (hl : us.length = 3) (h : ∀ u0 u1 u2, bindArgs fd ⟨[u0, u1, u2], []⟩ = pure ([p0, p1, p2].zip [u0, u1, u2])) : bindArgs fd ⟨us, []⟩ = pure ([p0, p1, p2].zip us) := by
 match us, hl with
 | [u0, u1, u2], _ => exact h u0 u1 u2
section
variable {P : Program} {w : World} {K : PySem.W.Frag} {mg : Str → Option Value} {base : Heap} {k n : Nat} {x : Str} {st : Stmt} {N ps : List Str} {φ : Ob → Prop} {F : List PyData → (R → Prop) → Prop}
abbrev bodyX (P : Program) (w : World) (K : PySem.W.Frag) (mg : Str → Option Value) (base : Heap) (N : List Str) (x : Str) (sc : Scope) (f : Addr) (cdv : Value) (A : Around) (outer : List Env) (s : Shared) (H : Hp) (E : XK) : Unit → Cx := fun _ => (cxOf CX0 P w K mg base N x sc f cdv A outer s H E).nox
theorem ctx_body {f : Addr} {cdv : Value} {A : Around} {outer : List Env} {s : Shared} {H : Hp} {E : XK} {sc : Scope} (hr : Room k (A.deeper (envOfC x sc s.heap.objs.size f cdv))) : Ctx3 P w K mg base k (bodyX P w K mg base N x sc f cdv A outer s H E) :=
 ⟨fun _ => rfl, fun _ => rfl, fun _ => rfl, fun _ => rfl, fun _ => rfl, fun _ => rfl, fun _ => hr, fun _ => rfl⟩
end
end L3
namespace L3
open PySem PySem.Spec
open PyProof.Rows hiding St
open L2
structure PotStp (a l : Addr) (H H' : Hp) : Prop where
 oth : ∀ b, b ≠ a → b ≠ l → H' b = H b
theorem PotStp.refl (a l : Addr) (H : Hp) : PotStp a l H H := ⟨fun _ _ _ => rfl⟩
theorem PotStp.trans {a l : Addr} {H H1 H2 : Hp} (x : PotStp a l H H1) (y : PotStp a l H1 H2) : PotStp a l H H2 := ⟨fun b h1 h2 => (y.oth b h1 h2).trans (x.oth b h1 h2)⟩
theorem PotStp.upA {a l : Addr} {H : Hp} (o : HO) : PotStp a l H (upd H a o) := ⟨fun b h1 _ => upd_ne h1⟩
theorem PotStp.upL {a l : Addr} {H : Hp} (o : HO) : PotStp a l H (upd H l o) := ⟨fun b _ h2 => upd_ne h2⟩
abbrev lenR (K : PySem.W.Frag) : List V → Hp → VK → Prop := fun xs H Q => ∃ x n, xs = [x] ∧ LenV K x H n ∧ Q (.int n) H
def drawF : List PyData → (R → Prop) → Prop := fun ds Q => ∃ m : Int, ds = [.int m] ∧ 0 < m ∧ m < 1073741824 ∧ ∀ k, 0 ≤ k → k < m → Q (.o (.int k))
theorem cutV_map (ns : List Int) (lo hi : Option Int) : cutV (ns.map V.int) lo hi = (cutL ns lo hi).map V.int := by
 unfold cutV cutL
 rw [List.length_map, List.map_take, List.map_drop]
end L3
namespace L3
open PySem PySem.Spec
open PyProof.Rows hiding St
open L2
theorem eqF_int {neg : Bool} {i j : Int} : eqF neg (.int i) (.int j) = some (.o (.bool (if neg then !decide (i = j) else decide (i = j)))) := by
 unfold eqF
 have e : (okD (PyData.int i) && (PyData.int j).canLay0) = true := by simp [okD, PyData.canLay0, PyData.depth]
 rw [if_pos e]
 rfl
theorem comp_of {α : Type} {enc : α → PyData} {i : Nat} {fe : DE} {ρ : DSt} {Q : List PyData → Prop} {as : List α} {e : α → PyData} {h : Nat} (step : ∀ a ∈ as, ∀ P : R → Prop, (∀ r, r.d = e a → P r) → fe ((List.replicate h none ++ ρ).set i (some (.im (enc a)))) P) (hz : as.length ≤ sizeLine) (q : Q (as.map e)) :
   compGo h (gN i) yesD fe ρ Q (as.map enc) [] := by
 have key : ∀ (as : List α) (acc : List PyData), (∀ a ∈ as, ∀ P : R → Prop, (∀ r, r.d = e a → P r) → fe ((List.replicate h none ++ ρ).set i (some (.im (enc a)))) P) → acc.length + as.length ≤ sizeLine → Q (acc ++ as.map e) → compGo h (gN i) yesD fe ρ Q (as.map enc) acc := by
   intro as
   induction as with
   | nil => intro acc _ _ q; show Q acc; simpa using q
   | cons a as ih =>
     intro acc st hz q
     rw [List.length_cons] at hz
     refine st a List.mem_cons_self _ fun r hr => ?_
     refine ⟨by omega, ?_⟩
     rw [hr]
     exact ih (acc ++ [e a]) (fun a' ha => st a' (List.mem_cons_of_mem _ ha)) (by rw [List.length_append]; simp; omega) (by simpa using q)
 exact key as [] step (by simpa using hz) (by simpa using q)
theorem forGo_rev {g : DG} {gb : DS} {Dd : DEnds} {ds : List PyData} {ρ : DSt} (J : Nat → DSt → Prop) (h0 : J 0 ρ) (fin : ∀ ρ, J ds.length ρ → Dd.nx ρ)
   (step : ∀ (j : Nat) d ρ (N : DSt → Prop), ds[j]? = some d → (∀ ρ', J (j + 1) ρ' → N ρ') → J j ρ → flat d = true ∧ g d ρ fun ρ2 => gb { Dd with nx := N, ct := N, bk := Dd.nx } ρ2) : forGo g gb Dd ds ρ := by
 have key : ∀ (k j : Nat), j + k = ds.length → ∀ ρ, J j ρ → forGo g gb Dd (ds.drop j) ρ := by
   intro k
   induction k with
   | zero =>
     intro j hj ρ h
     rw [List.drop_eq_nil_of_le (by omega)]
     have e : j = ds.length := by omega
     rw [e] at h
     exact fin ρ h
   | succ k ih =>
     intro j hj ρ h
     have hlt : j < ds.length := by omega
     rw [List.drop_eq_getElem_cons hlt]
     exact step j ds[j] ρ _ (List.getElem?_eq_getElem hlt) (fun ρ' h' => ih (j + 1) (by omega) ρ' h') h
 have := key ds.length 0 (by omega) ρ h0
 simpa using this
end L3
namespace L3
open PySem PySem.Spec
open PyProof.Rows hiding St
open L2
def spLaw (K : PySem.W.Frag) : Sp := fun vs H Q _ => ∃ (a : Addr) (ns : List Int), vs = [.ref a] ∧ SqL K H a (ns.map V.int) ∧ ns.length ≤ 63 ∧ ∀ H', Q (.bl true) H'
end L3
namespace L3
section
open PySem PySem.Builtin PySem.Builtin.Str
def sOk (x : PySem.Str) : Prop := ∀ c ∈ x.cps.toList, c < 0x110000
theorem strOk_iff {x : PySem.Str} : PyData.strOk x = true ↔ sOk x := by
 unfold PyData.strOk sOk
 rw [Array.all_eq_true']
 simp
theorem sOk_app {x y : PySem.Str} (hx : sOk x) (hy : sOk y) : sOk (x ++ y) := by
 intro c hc
 have e : (x ++ y).cps.toList = x.cps.toList ++ y.cps.toList := by
   show (x.cps ++ y.cps).toList = _
   simp
 rw [e] at hc
 rcases List.mem_append.mp hc with hc | hc
 · exact hx c hc
 · exact hy c hc
theorem char_lt (c : Char) : c.toNat < 0x110000 := by
 have := c.valid
 rcases this with h | h
 · exact Nat.lt_trans h (by decide)
 · exact h.2
theorem sOk_of (s : String) : sOk (PySem.Str.ofString s) := by
 intro c hc
 have : c ∈ (s.toList.map Char.toNat) := by rw [PySem.Str.ofString_eq_toList] at hc; simpa using hc
 obtain ⟨d, _, rfl⟩ := List.mem_map.mp this
 exact char_lt d
theorem sOk_join {sep : PySem.Str} (hs : sOk sep) : ∀ {l : List PySem.Str}, (∀ x ∈ l, sOk x) → sOk (PySem.Str.join sep l)
 | [], _ => fun c hc => by cases hc
 | [x], h => h x (by simp)
 | x :: y :: r, h => sOk_app (sOk_app (h x (by simp)) hs) (sOk_join hs (l := y :: r) fun z hz => h z (List.mem_cons_of_mem _ hz))
theorem rc_ok {q c : Nat} (hc : c < 0x110000) : ∀ x ∈ reprChar q c, x < 0x110000 := by
 have hex : ∀ w : Nat, ∀ x ∈ (List.replicate (w - ((Nat.toDigits 16 c).map Char.toNat).length) 48 ++ (Nat.toDigits 16 c).map Char.toNat), x < 0x110000 := by
   intro w x hx
   rcases List.mem_append.mp hx with hx | hx
   · rw [(List.mem_replicate.mp hx).2]; decide
   · obtain ⟨d, _, rfl⟩ := List.mem_map.mp hx
     exact char_lt d
 have two : ∀ a b : Nat, a < 0x110000 → b < 0x110000 → ∀ x ∈ [a, b], x < 0x110000 := by
   intro a b ha hb x hx
   rcases List.mem_cons.mp hx with rfl | hx
   · exact ha
   · rw [List.mem_singleton.mp hx]; exact hb
 have tw : ∀ a b w : Nat, a < 0x110000 → b < 0x110000 → ∀ x ∈ [a, b] ++ (List.replicate (w - ((Nat.toDigits 16 c).map Char.toNat).length) 48 ++ (Nat.toDigits 16 c).map Char.toNat), x < 0x110000 := by
   intro a b w ha hb x hx
   rcases List.mem_append.mp hx with hx | hx
   · exact two a b ha hb x hx
   · exact hex w x hx
 intro x
 unfold reprChar
 dsimp only
 split
 · exact two _ _ (by decide) hc x
 split
 · exact two _ _ (by decide) (by decide) x
 split
 · exact two _ _ (by decide) (by decide) x
 split
 · exact two _ _ (by decide) (by decide) x
 split
 · intro hx; rw [List.mem_singleton.mp hx]; exact hc
 split
 · exact tw _ _ 2 (by decide) (by decide) x
 split
 · exact tw _ _ 4 (by decide) (by decide) x
 · exact tw _ _ 8 (by decide) (by decide) x
theorem sOk_repr {x : PySem.Str} (h : sOk x) : sOk (reprText x) := by
 have key : ∀ (q : Nat) (l : List Nat) (acc : Array Nat), (∀ c ∈ l, c < 0x110000) → (∀ c ∈ acc.toList, c < 0x110000) → ∀ c ∈ (l.foldl (fun out c => out ++ (reprChar q c).toArray) acc).toList, c < 0x110000 := by
   intro q l
   induction l with
   | nil => intro acc _ ha; exact ha
   | cons c l ih =>
     intro acc hl ha
     refine ih _ (fun d hd => hl d (List.mem_cons_of_mem _ hd)) fun d hd => ?_
     rw [Array.toList_append] at hd
     rcases List.mem_append.mp hd with hd | hd
     · exact ha d hd
     · exact rc_ok (hl c List.mem_cons_self) d (by simpa using hd)
 have hq : reprQuote x < 0x110000 := by unfold reprQuote; split <;> decide
 intro c hc
 unfold reprText at hc
 rw [Array.toList_push, ← Array.foldl_toList] at hc
 rcases List.mem_append.mp hc with hc | hc
 · have h0 : ∀ d ∈ (#[reprQuote x] : Array Nat).toList, d < 0x110000 := fun d hd => by
     have e : d = reprQuote x := by simpa using hd
     rw [e]
     exact hq
   exact key _ _ _ h h0 c hc
 · rw [List.mem_singleton.mp hc]; exact hq
end
open PySem PySem.Spec
open PyProof.Rows hiding St
open L2
mutual
theorem sOk_shown : ∀ d : PyData, d.canLay0 = true → sOk d.shown
 | .none, _ => by rw [PyData.shown_none]; exact sOk_of _
 | .bool b, _ => by rw [PyData.shown_bool]; cases b <;> exact sOk_of _
 | .int i, _ => by rw [PyData.shown_int]; exact sOk_of _
 | .str x, h => by rw [PyData.shown_str]; exact sOk_repr (strOk_iff.mp (by simpa [PyData.canLay0] using h))
 | .list xs, h => by
   rw [PyData.shown_list]
   exact sOk_app (sOk_app (sOk_of _) (sOk_join (sOk_of _) (sOk_shownAll xs (by simpa [PyData.canLay0] using h)))) (sOk_of _)
 | .tuple xs, h => by
   rw [PyData.shown_tuple]
   exact sOk_app (sOk_app (sOk_of _) (sOk_join (sOk_of _) (sOk_shownAll xs (by simpa [PyData.canLay0] using h)))) (sOk_of _)
 | .dict _, h => by simp [PyData.canLay0] at h
theorem sOk_shownAll : ∀ xs : List PyData, PyData.canLayAll0 xs = true → ∀ x ∈ PyData.shownAll xs, sOk x
 | [], _, _, hx => by simp [PyData.shownAll] at hx
 | d :: xs, h, x, hx => by
   rw [PyData.canLayAll0, Bool.and_eq_true] at h
   rw [PyData.shownAll_cons] at hx
   rcases List.mem_cons.mp hx with e | hx
   · rw [e]; exact sOk_shown d h.1
   · exact sOk_shownAll xs h.2 x hx
end
theorem repr_ok {d : PyData} (h1 : d.canLay0 = true) (h2 : d.showable = true) (h3 : d.depth ≤ 60) (h4 : d.leavesShort 13 = true) (h5 : d.bulk ≤ 2 ^ 20) : ∃ x, reprF [d] = some (.o (.str x)) ∧ PyData.strOk x = true := by
 refine ⟨d.shown, ?_, strOk_iff.mpr (sOk_shown d h1)⟩
 unfold reprF
 dsimp only
 rw [if_pos]
 rw [h2, PyData.hasDict_of_canLay d h1, decide_eq_true h3, decide_eq_true (PyData.shown_fits_bulk (B := 13) (by decide) (by decide) h4 h5)]
 rfl
theorem short_str {x : Str} (h : PyData.strOk x = true) {B : Nat} : (PyData.str x).leavesShort B = true := by
 have h := strOk_iff.mp h
 rw [PyData.leavesShort, List.all_eq_true]
 intro c hc
 have := h c hc
 exact decide_eq_true (by omega)
end L3
namespace L3
open PySem PySem.Spec
open PyProof.Rows hiding St
open L2
section
variable {ι κ : Type} {P : Program} {w : World} {K : PySem.W.Frag} {mg : Str → Option Value} {base : Heap} {k : Nat} {X : ι → Cx} {O : κ → Ob} {a b : Expr} {fa : DE} {pos p : Pos} {ga : DA}
theorem mtr_pop {X : Cx} : MtR X "list.pop" rPop := fun pins s σ H x xs v us Q I rx rv h => mt_pop pins s σ H x xs v us Q I rx rv h
end
section
variable {ι κ : Type} {P : Program} {w : World} {K : PySem.W.Frag} {mg : Str → Option Value} {base : Heap} {k : Nat} {X : ι → Cx} {O : κ → Ob} {a b : Expr} {fa fb : DE} {pos p : Pos} {ga : DA}
theorem bt_max : bootBuiltins "max" = some (.builtin "max") := by decide +kernel
end
end L3
namespace L3
open PySem PySem.Spec
open PyProof.Rows hiding St
open L2
namespace RV
theorem nolen_rev : typeLookup (.type "list_reverseiterator") "__len__" = pure none := by rw [typeLookup_type, builtinLookup_eq_fast]; kernel_rfl
theorem hint_rev : typeLookup (.type "list_reverseiterator") "__length_hint__" = pure (some (.builtin "list_reverseiterator.__length_hint__")) := by rw [typeLookup_type, builtinLookup_eq_fast]; kernel_rfl
theorem sub_rev_self : isSubtype (.type "list_reverseiterator") (.type "list_reverseiterator") = pure true := by rw [isSubtype_type]; kernel_rfl
theorem split_hint : splitId "list_reverseiterator.__length_hint__" = some ("list_reverseiterator", "__length_hint__") := by decide +kernel
theorem hint_no {prog : Program} {w : World} {A : Around} {E : Value → Shared → Prop} {s : Shared} {it : Addr} {Q : Bool → Shared → Prop} (t : s.TypeIs (.ref it) "list_reverseiterator") (q : Q false s) : wpAny (model prog w) A (Builtin.List.listLengthHint (.ref it)) Q E s := by
 have sp := split_hint
 unfold Builtin.List.listLengthHint
 refine wpAny_bind (wpAny_specialOf t nolen_rev (wpAny_bind (wpAny_specialOf t hint_rev ?_)))
 revert sp
 generalize z : ("list_reverseiterator.__length_hint__" : String) = nm
 intro sp
 dsimp only
 rw [sp]
 subst z
 exact wpAny_bind (wpAny_isInstance (b := true) t sub_rev_self (wpAny_pure q))
theorem list_of_rev {prog : Program} {w : World} {A : Around} {E : Value → Shared → Prop} {s : Shared} {it l : Addr} {items : Array Value} {Q : Value → Shared → Prop} (hh : A.handled = none) (hr : s.heap.IsRevIter it l ((items.size : Int) - 1)) (hl : s.heap.IsList l items) (hne : l ≠ it) (hz : items.size ≤ sizeLine)
   (q : ∀ h' t' vs c, (∀ b o, b ≠ it → s.heap.get? b = some o → h'.get? b = some o) → h'.get? s.heap.objs.size = some { cls := .type "list", dict := none, data := .seq vs c, slots := #[] } → ItemsOf (fun i v => items[items.size - 1 - i]? = some v) vs items.size → Q (.ref s.heap.objs.size) { s with heap := h', toks := t' }) :
   wpAny (model prog w) A (call (.type "list") [.ref it]) Q E s := by
 have W := (Walks.listRev (prog := prog) (w := w) (A := A.in1.in1) hh it l hne items).toS
 have new : ∀ b o, s.heap.get? b = some o → b ≠ s.heap.objs.size := fun b o e z => by
   subst z
   rw [Heap.get?] at e
   simp at e
 refine callType_codes (Q₁ := fun v s1 => v = .ref s.heap.objs.size ∧ s1 = { s with heap := s.heap.push { cls := .type "list", data := .seq #[] } }) F.called_list (F.typeCall_list_1 _) F.entry_list_init (code_list_new _ ⟨rfl, rfl⟩) ?_
 rintro _ _ ⟨rfl, rfl⟩
 refine ⟨⟨_, Heap.get?_push_size _ rfl, rfl⟩, F.args_list_init_2 _ _, ?_⟩
 obtain ⟨o, ho, hc, hd⟩ := id hr
 have nI : s.heap.objs.size ≠ it := fun z => new it _ ho z.symm
 have same : Builtin.List.listSameRef (.ref s.heap.objs.size) (.ref it) = false := by simp [Builtin.List.listSameRef, nI]
 have t1 : Value.type "list_reverseiterator" ≠ Value.type "list" := by decide
 have eS : (s.heap.push { cls := .type "list", data := .seq #[] }).get? s.heap.objs.size = some { cls := .type "list", data := .seq #[] } := Heap.get?_push_size _ rfl
 have eI := Heap.get?_push_of_some { cls := .type "list", data := .seq (#[] : Array Value) } ho
 have a1 := nolen_rev
 have a2 := hint_rev
 have a3 := sub_rev_self
 obtain ⟨hp, g, dr, tk, os⟩ := s
 have eI2 : (((hp.push { cls := .type "list", data := .seq #[] }).update hp.objs.size (Obj.mapSeq fun _ => (#[] : Array Value))).get? it) = some o := by
   rw [Heap.get?_update_other _ _ nI]
   exact eI
 have eS2 := Heap.get?_update_self (Obj.mapSeq (fun _ => (#[] : Array Value))) eS rfl
 have hr2 : ((hp.push { cls := .type "list", data := .seq #[] }).update hp.objs.size (Obj.mapSeq fun _ => (#[] : Array Value))).IsRevIter it l ((items.size : Int) - 1) := ⟨o, eI2, hc, hd⟩
 have hT : Shared.TypeIs ⟨((hp.push { cls := .type "list", data := .seq #[] }).update hp.objs.size (Obj.mapSeq fun _ => (#[] : Array Value))), g, dr, tk, os⟩ (.ref it) "list_reverseiterator" := ⟨o, eI2, hc⟩
 unfold Builtin.«list.__init__»
 wp_walk using wpAny_pyIter_revIter hr2, wpAny_typeOf hT, hint_no hT
 have hl2 : ((hp.push { cls := .type "list", data := .seq #[] }).update hp.objs.size (Obj.mapSeq fun _ => (#[] : Array Value))).IsList l items := by
   obtain ⟨ol, h1, h2⟩ := hl
   refine ⟨ol, ?_, h2⟩
   rw [Heap.get?_update_other _ _ (fun z => new l _ h1 z.symm)]
   exact Heap.get?_push_of_some _ h1
 have hS : hp.objs.size ∉ [it, l] := fun z => by
   obtain ⟨ol, h1, _⟩ := hl
   rcases List.mem_cons.mp z with z | z
   · exact nI z
   · exact new l _ h1 (List.mem_singleton.mp z).symm
 refine ⟨plainId_quiet F.plain_extend_loop _, codeAny_extend_loopS W hz _ hS _ items.size 0 _ _ _ rfl (Nat.zero_le _) ⟨Nat.zero_le _, by simpa using hr2, hl2⟩ eS2 (ItemsOf.nil _) fun s' vs c m e is => ⟨rfl, ?_⟩⟩
 obtain ⟨hp', g', dr', tk', os'⟩ := s'
 obtain ⟨m1, m2, m3, m4, m5⟩ := m
 have m2 : g' = g := m2
 have m3 : dr' = dr := m3
 have m4 : os' = os := m4
 subst m2 m3 m4
 refine q hp' tk' vs c (fun b ob hb eb => m1 b ob (fun z => ?_) ?_) e is
 · rcases List.mem_cons.mp z with z | z
   · exact new b _ eb z
   · exact hb (List.mem_singleton.mp z)
 · show ((hp.push _).update _ _).get? b = _
   rw [Heap.get?_update_other _ _ (fun z => new b _ eb z.symm)]
   exact Heap.get?_push_of_some _ eb
theorem items_rev {its : List Value} {vs : Array Value} (h : ItemsOf (fun i v => its.toArray[its.toArray.size - 1 - i]? = some v) vs its.toArray.size) : vs = its.reverse.toArray := by
 obtain ⟨h1, h2⟩ := h
 apply Array.ext'
 apply List.ext_getElem?
 intro i
 by_cases hi : i < vs.size
 · have e : vs.toList[i]? = some vs[i] := by simp [hi]
   have e2 := h2 i vs[i] (by simp [hi])
   rw [e, ← e2]
   simp at h1 e2 ⊢
   rw [List.getElem?_reverse (by omega)]
 · rw [List.getElem?_eq_none (by simpa using hi)]
   symm
   apply List.getElem?_eq_none
   simp at h1 ⊢
   omega
end RV
def tLR (K : PySem.W.Frag) (te : TE) : TE := fun σ H Q => te σ H fun v H1 => ∃ a xs, v = .ref a ∧ SqL K H1 a xs ∧ ∀ p, H1 p = none → Q (.ref p) (upd H1 p (.lst xs.reverse))
theorem pe_listrev {X : Cx} {e : Expr} {te : TE} {p1 p2 p3 p4 : Pos} (calm : X.A.handled = none) (gl : Gl X "list") (ml : X.mg "list" = none) (gr : Gl X "reversed") (mr : X.mg "reversed" = none) (he : PE X e te)
   (s1 : starEach [.Call (.Name "reversed" p2) [e] [] p3] X.env = (false, eval (.Call (.Name "reversed" p2) [e] [] p3) X.env) :: starEach [] X.env := by rfl) (s2 : starEach [e] X.env = (false, eval e X.env) :: starEach [] X.env := by rfl) :
   PE X (.Call (.Name "list" p1) [.Call (.Name "reversed" p2) [e] [] p3] [] p4) (tLR X.K te) := by
 intro pins s σ H Q I h
 refine wpAny_Call_Name_kw (ld_blt I gl ml (u := .type "list") rfl ?_)
 refine PyProof.Rows.callWith_type1 ?_ s1
 rw [s1]
 show wpAny _ _ (spliced ((false, eval (.Call (.Name "reversed" p2) [e] [] p3) X.env) :: [])) _ _ s
 refine Calls.spliced_cons ?_
 refine wpAny_Call_Name_kw (ld_blt I gr mr (u := .type "reversed") rfl ?_)
 refine PyProof.Rows.callWith_type1 ?_ s2
 rw [s2]
 show wpAny _ _ (spliced ((false, eval e X.env) :: [])) _ _ s
 refine Calls.spliced_cons (thn (he pins s σ H _ I h) fun u s' ⟨y, H1, I1, r1, a, xs, ey, hq, q⟩ => ?_)
 subst ey
 cases r1
 refine Calls.spliced_nil ?_
 obtain ⟨its, rv, pl, hz⟩ := I1.list hq
 have hlen := rv.length
 have isl := pl.isList
 refine call_reversed_list isl ?_
 refine Calls.spliced_nil ?_
 have new : a ≠ s'.heap.objs.size := fun z => by
   obtain ⟨o, ho, _⟩ := isl
   exact Nat.lt_irrefl _ (z ▸ Heap.lt_size ho)
 have isl2 : (s'.heap.push (revObj a ((its.toArray.size : Int) - 1))).IsList a its.toArray := isl.push _
 refine RV.list_of_rev (s := { s' with heap := s'.heap.push (revObj a ((its.toArray.size : Int) - 1)) }) calm ⟨_, Heap.get?_push_size _ rfl, rfl, rfl⟩ isl2 new (by simp; omega) fun h' t' vs c kp e is => ?_
 have ez : (s'.heap.push (revObj a ((its.toArray.size : Int) - 1))).objs.size = s'.heap.objs.size + 1 := Heap.size_push ..
 have ev := RV.items_rev is
 subst ev
 have kp2 : ∀ b o, s'.heap.get? b = some o → h'.get? b = some o := fun b o eb => kp b o (fun z => Nat.lt_irrefl _ (z ▸ Heap.lt_size eb)) (Heap.get?_push_of_some _ eb)
 have fr : H1 (s'.heap.objs.size + 1) = none := I1.hok.fresh (Nat.le_succ _)
 dsimp only at e ⊢
 rw [ez] at e ⊢
 exact ⟨.ref (s'.heap.objs.size + 1), _, I1.laid (t' := t') kp2 (Nat.le_succ _) (show ObjOk X.prog X.w _ h' _ (.lst xs.reverse) from ⟨by rw [List.length_reverse]; exact hz, its.reverse, c, rv.reverse, e⟩), rfl, q _ fr⟩
end L3
namespace L3
open PySem PySem.Spec
open PyProof.Rows hiding St
open L2
abbrev kSeed : Key := .inr "seed"
abbrev kNum : Key := .inr "number"
abbrev kLeft : Key := .inr "left"
def dealKv (seed num : Int) (l : Addr) : List (Key × V) := [(kSeed, .int seed), (kNum, .int num), (kLeft, .ref l)]
def dealA (seed num : Int) (l : Addr) : HO := .dK (dealKv seed num l)
theorem val_seed (s n : Int) (l : Addr) : valV (dealKv s n l) kSeed = some (.int s) := by simp [valV, dealKv, List.find?_cons]
theorem val_num (s n : Int) (l : Addr) : valV (dealKv s n l) kNum = some (.int n) := by
 have h1 : ¬ (kSeed = kNum) := by decide +kernel
 simp [valV, dealKv, List.find?_cons, h1]
theorem val_left (s n : Int) (l : Addr) : valV (dealKv s n l) kLeft = some (.ref l) := by
 have h1 : ¬ (kSeed = kLeft) := by decide +kernel
 have h2 : ¬ (kNum = kLeft) := by decide +kernel
 simp [valV, dealKv, List.find?_cons, h1, h2]
theorem put_seed (s n s' : Int) (l : Addr) : putK (dealKv s n l) kSeed (.int s') = dealKv s' n l := by
 have h1 : ¬ (kNum = kSeed) := by decide +kernel
 have h2 : ¬ (kLeft = kSeed) := by decide +kernel
 simp [putK, dealKv, h1, h2]
theorem put_num (s n n' : Int) (l : Addr) : putK (dealKv s n l) kNum (.int n') = dealKv s n' l := by
 have h1 : ¬ (kSeed = kNum) := by decide +kernel
 have h2 : ¬ (kLeft = kNum) := by decide +kernel
 simp [putK, dealKv, h1, h2]
structure DealAt (H : Hp) (a l : Addr) (seed num : Int) (ns : List Int) : Prop where
 ne : a ≠ l
 ha : H a = some (dealA seed num l)
 hl : H l = some (.lst (ns.map V.int))
 s0 : 0 ≤ seed
 s1 : seed < 4294967296
 n0 : 0 ≤ num
 ns0 : ∀ n ∈ ns, 0 ≤ n
structure IsDeal (O : Ob) : Prop where
 ex : ∃ a l, O.v = .ref a ∧ O.M a ∧ O.M l ∧ (∀ H, O.P H → ∃ s n ns, DealAt H a l s n ns) ∧ ∀ H H' s n ns, O.P H → DealAt H' a l s n ns → (∀ b, O.M b → b ≠ a → b ≠ l → H' b = H b) → O.P H'
def dealOb (a l : Addr) : Ob := ⟨fun b => b = a ∨ b = l, fun H => ∃ s n ns, DealAt H a l s n ns, .ref a⟩
theorem dealOb_ok (a l : Addr) : (dealOb a l).Ok := by
 refine ⟨fun H H' e ⟨s, n, ns, p⟩ => ⟨s, n, ns, p.ne, (e a (.inl rfl)).trans p.ha, (e l (.inr rfl)).trans p.hl, p.s0, p.s1, p.n0, p.ns0⟩, fun H b o ⟨s, n, ns, p⟩ eb m => ?_, fun H b ⟨s, n, ns, p⟩ m => ?_⟩
 · rcases m with rfl | rfl
   · rw [p.ha] at eb; cases eb; exact ⟨fun _ z => (by cases z), fun _ _ z => (by cases z)⟩
   · rw [p.hl] at eb; cases eb; exact ⟨fun _ z => (by cases z), fun _ _ z => (by cases z)⟩
 · rcases m with rfl | rfl
   · exact ⟨_, p.ha⟩
   · exact ⟨_, p.hl⟩
theorem dealOb_is (a l : Addr) : IsDeal (dealOb a l) := ⟨a, l, rfl, .inl rfl, .inr rfl, fun _ p => p, fun _ _ s n ns _ q _ => ⟨s, n, ns, q⟩⟩
abbrev dAt (k : Str) : TE := tDGet (tVar 0) (tC (.str k))
def tDealW (K : PySem.W.Frag) : TS :=
 tWhile (tAnd (tTest (tOp rEq (dAt "number") (tC (.int 0)))) (tTest (tOp (rI0 fun i j => .bl (decide (j < i))) (tCB (lenR K) (tCons (dAt "left") tNil)) (tC (.int 0)))))
     (sDPut (tVar 0) (tC (.str "number")) (tBM0 K "list" rPop (dAt "left")))
theorem at_num {H : Hp} {a l : Addr} {s n : Int} {ns : List Int} {σ : St} {Q : VK} (p : DealAt H a l s n ns) (hσ : σ[0]? = some (some (.ref a))) (q : Q (.int n) H) : dAt "number" σ H Q :=
 ⟨_, hσ, a, _, rfl, .inl ⟨_, kNum, .inl p.ha, rfl, (val_num s n l).symm⟩, q⟩
theorem at_seed {H : Hp} {a l : Addr} {s n : Int} {ns : List Int} {σ : St} {Q : VK} (p : DealAt H a l s n ns) (hσ : σ[0]? = some (some (.ref a))) (q : Q (.int s) H) : dAt "seed" σ H Q :=
 ⟨_, hσ, a, _, rfl, .inl ⟨_, kSeed, .inl p.ha, rfl, (val_seed s n l).symm⟩, q⟩
theorem at_left {H : Hp} {a l : Addr} {s n : Int} {ns : List Int} {σ : St} {Q : VK} (p : DealAt H a l s n ns) (hσ : σ[0]? = some (some (.ref a))) (q : Q (.ref l) H) : dAt "left" σ H Q :=
 ⟨_, hσ, a, _, rfl, .inl ⟨_, kLeft, .inl p.ha, rfl, (val_left s n l).symm⟩, q⟩
theorem len_kv (s n : Int) (l : Addr) : (dealKv s n l).length < sizeLine := by rw [sizeLine_eq]; show 3 < 16777216; decide
theorem DealAt.setN {H : Hp} {a l : Addr} {s n : Int} {ns : List Int} (p : DealAt H a l s n ns) {n' : Int} (h : 0 ≤ n') : DealAt (upd H a (dealA s n' l)) a l s n' ns :=
 ⟨p.ne, upd_same, by rw [upd_ne (Ne.symm p.ne)]; exact p.hl, p.s0, p.s1, h, p.ns0⟩
theorem DealAt.setS {H : Hp} {a l : Addr} {s n : Int} {ns : List Int} (p : DealAt H a l s n ns) {s' : Int} (h : 0 ≤ s') (h2 : s' < 4294967296) : DealAt (upd H a (dealA s' n l)) a l s' n ns :=
 ⟨p.ne, upd_same, by rw [upd_ne (Ne.symm p.ne)]; exact p.hl, h, h2, p.n0, p.ns0⟩
theorem put_n {H : Hp} {a l : Addr} {s n : Int} {ns : List Int} (p : DealAt H a l s n ns) (n' : Int) : DPut H a (.str "number") (.int n') (upd H a (dealA s n' l)) :=
 .inl ⟨_, kNum, p.ha, rfl, len_kv s n l, by rw [put_num]; rfl⟩
theorem put_s {H : Hp} {a l : Addr} {s n : Int} {ns : List Int} (p : DealAt H a l s n ns) (s' : Int) : DPut H a (.str "seed") (.int s') (upd H a (dealA s' n l)) :=
 .inl ⟨_, kSeed, p.ha, rfl, len_kv s n l, by rw [put_seed]; rfl⟩
theorem deal_stp {O : Ob} {H H' : Hp} {a l : Addr} {s n s' n' : Int} {ns ns' : List Int} (ma : O.M a) (ml : O.M l) (h2 : ∀ H H' s n ns, O.P H → DealAt H' a l s n ns → (∀ b, O.M b → b ≠ a → b ≠ l → H' b = H b) → O.P H') (p : DealAt H a l s n ns) (p' : DealAt H' a l s' n' ns') (st : PotStp a l H H') : Stp O H H' := by
 refine ⟨fun b o e nm => ?_, fun pp => h2 H H' _ _ _ pp p' fun b _ h3 h4 => st.oth b h3 h4, fun b u hu e => ?_⟩
 · rw [st.oth b (fun z => nm (z ▸ ma)) fun z => nm (z ▸ ml)]; exact e
 · rw [st.oth b (fun z => ?_) fun z => ?_]
   · exact e
   · rw [z, p.ha] at e; cases e; obtain ⟨xs, e1 | ⟨o, e1⟩⟩ := hu <;> cases e1
   · rw [z, p.hl] at e; cases e; obtain ⟨xs, e1 | ⟨o, e1⟩⟩ := hu <;> cases e1
end L3
namespace L3
open PySem PySem.Spec
open PyProof.Rows hiding St
open L2
theorem upd2 (H : Hp) (a : Addr) (x y : HO) : upd (upd H a x) a y = upd H a y := by
 funext b
 by_cases e : b = a
 · subst e; rw [upd_same, upd_same]
 · rw [upd_ne e, upd_ne e, upd_ne e]
theorem tcomp_ints {K : PySem.W.Frag} {c : Addr} {ns : List Int} {σ : St} {H : Hp} {tf : TT} {te : TE} {G : Addr → Hp → Prop} (p : Int → Bool) (f : Int → Int) (hS : SqL K H c (ns.map V.int)) (hz : ns.length ≤ 63)
   (ht : ∀ n H' R, R (p n) H' → tf (some (.int n) :: σ) H' R) (he : ∀ n H' R, R (V.int (f n)) H' → te (some (.int n) :: σ) H' R)
   (q : ∀ D, H D = none → G D (upd H D (.lst (((ns.filter p).map f).map V.int)))) :
   ∀ D, H D = none → ∃ W : Nat → Nat → List V → Hp → Prop, (∃ m, W 0 m [] (upd H D (.lst []))) ∧ ∀ i m ys H', W i m ys H' → H' D = some (.lst ys) ∧ (((Itl K c).stop i H' ∧ G D H') ∨ ((Itl K c).go i H' ∧ ∀ x H'', (Itl K c).yld i H' x H'' → gName 0 x (List.replicate 1 none ++ σ) H'' fun σ2 H2 => tf σ2 H2 fun b H3 =>
     if b = true then te σ2 H3 fun y H4 => H4 D = some (.lst ys) ∧ ys.length < sizeLine ∧ ∃ m', m' < m ∧ W (i + 1) m' (ys ++ [y]) (upd H4 D (.lst (ys ++ [y]))) else ∃ m', m' < m ∧ W (i + 1) m' ys H3)) := by
 intro D hD
 have sz := sizeLine_eq
 refine ⟨fun i m ys H' => m = ns.length - i ∧ i ≤ ns.length ∧ ys = (((ns.take i).filter p).map f).map V.int ∧ H' = upd H D (.lst ys), ⟨_, rfl, Nat.zero_le _, rfl, rfl⟩, ?_⟩
 rintro i m ys H' ⟨rfl, hi, rfl, rfl⟩
 refine ⟨upd_same, ?_⟩
 have hS' := (L3.same_new hD (.lst ((((ns.take i).filter p).map f).map V.int))).seq hS
 by_cases lt : i < ns.length
 · right
   refine ⟨⟨_, .int ns[i], hS', by rw [List.getElem?_map, List.getElem?_eq_getElem lt]; rfl⟩, fun x H'' ⟨e, y⟩ => ?_⟩
   subst e
   have ex := y _ hS'
   rw [List.getElem?_map, List.getElem?_eq_getElem lt] at ex
   cases ex
   show tf (some (.int ns[i]) :: σ) _ _
   have et : (ns.take (i + 1)).filter p = (ns.take i).filter p ++ (if p ns[i] = true then [ns[i]] else []) := by
     rw [List.take_succ_eq_append_getElem lt, List.filter_append, List.filter_cons]
     rfl
   refine ht _ _ _ ?_
   by_cases cc : p ns[i] = true
   · rw [if_pos cc] at et ⊢
     have hlen : ((ns.take i).filter p).length ≤ ns.length := Nat.le_trans (List.length_filter_le _ _) (by rw [List.length_take]; omega)
     refine he _ _ _ ⟨upd_same, by rw [List.length_map, List.length_map]; omega, ns.length - (i + 1), by omega, rfl, lt, ?_, upd2 _ _ _ _⟩
     rw [et, List.map_append, List.map_append]
     rfl
   · rw [if_neg cc] at et ⊢
     rw [List.append_nil] at et
     exact ⟨ns.length - (i + 1), by omega, rfl, lt, by rw [et], rfl⟩
 · left
   have e : i = ns.length := by omega
   subst e
   refine ⟨⟨_, hS', by rw [List.length_map]; exact Nat.le_refl _⟩, ?_⟩
   rw [List.take_length]
   exact q D hD
abbrev rMax2 : List V → Hp → VK → Prop := fun xs H Q => ∃ i j, xs = [.int i, .int j] ∧ Q (.int (if j > i then j else i)) H
def spDeal (K : PySem.W.Frag) : Sp := fun vs H Q _ => ∃ (a : Addr) (ns : List Int), vs = [.ref a, .int 0] ∧ SqL K H a (ns.map V.int) ∧ ns.length ≤ 63 ∧ ∀ p l s left H', H p = none → H l = none → Same H H' → DealAt H' p l s 0 left → Q (.ref p) H'
end L3
namespace L3
open PySem PySem.Spec
open PyProof.Rows hiding St
open L2
theorem mk_law5 {P : Program} {w : World} {K : PySem.W.Frag} {mg : Str → Option Value} {base : Heap} {k : Nat} {st st0 : Stmt} {rest : List Stmt} {N : List Str} {f₁ : Addr} {fd₁ : FuncData} (Fu : Fun K "law" "law" st f₁ fd₁) (S : FnScope ("_law_script" :: "_law_deal_here" :: N) ["_law_script"] (defScope st))
   (hs : defBody st = st0 :: rest)
   (first : ∀ (f : Addr) (cdv : Value) (A : Around) (outer : List Env) (s : Shared) (H : Hp) (E : XK), Ctx3 P w K mg base k (bodyX P w K mg base ("_law_script" :: "_law_deal_here" :: N) "law" (defScope st) f cdv A outer s H E) →
     PS (bodyX P w K mg base ("_law_script" :: "_law_deal_here" :: N) "law" (defScope st) f cdv A outer s H E ()) st0 (tAsg (tCall (spDeal K) [] E0 (tCons (tVar 0) (tCons (tC (.int 0)) tNil))) (gName 1)))
   (body : ∀ (f : Addr) (cdv : Value) (A : Around) (outer : List Env) (s : Shared) (H : Hp) (E : XK), Ctx3 P w K mg base k (bodyX P w K mg base ("_law_script" :: "_law_deal_here" :: N) "law" (defScope st) f cdv A outer s H E) →
     ∃ g, Ss3 K (bodyX P w K mg base ("_law_script" :: "_law_deal_here" :: N) "law" (defScope st) f cdv A outer s H E) (fun j : Addr × Addr => dealOb j.1 j.2) rest g ∧ g { nx := fun _ => False, rt := fun r => r = .o (.bool true) } (none :: some .ob :: List.replicate N.length none)) :
   FnOk P w K mg base CX0 (k + 1) f₁ fd₁ ["_law_script"] (spLaw K) := by
 refine Fu.ok S (fun vs H Q E h => by obtain ⟨a, ns, rfl, _⟩ := h; rfl) (fun cdv A outer s H vs Q E hr h => ?_)
 obtain ⟨a, ns, rfl, hS, hl, q⟩ := h
 have C := ctx_body (P := P) (w := w) (K := K) (mg := mg) (base := base) (N := "_law_script" :: "_law_deal_here" :: N) (x := "law") (sc := defScope st) (f := f₁) (cdv := cdv) (A := A) (outer := outer) (s := s) (H := H) (E := E) hr
 obtain ⟨g, ⟨t, h1, h2⟩, h3⟩ := body f₁ cdv A outer s H E C
 refine ⟨tSeq (tAsg (tCall (spDeal K) [] E0 (tCons (tVar 0) (tCons (tC (.int 0)) tNil))) (gName 1)) t, ?_, ?_⟩
 · rw [hs]
   exact pss_cons (first f₁ cdv A outer s H E C) (h1 ())
 · refine ⟨_, rfl, a, ns, rfl, hS, hl, fun p l s left H' hp hln sm pa => ?_⟩
   refine h2 (p, l) H' (fun _ _ => False) _ H' _ _ _ ⟨dealOb_ok p l, ⟨s, 0, left, pa⟩, ⟨s, 0, left, pa⟩, .refl _ _, fun _ _ _ z => z.elim, fun _ _ z => z.elim, fun i r e => ?_, ?_⟩ h3 ⟨fun _ _ _ _ _ _ z => z.elim, fun _ _ _ _ _ _ z => z.elim, fun _ _ _ _ _ _ z => z.elim, fun H' v r _ o e => ?_⟩
   · match i with
     | 0 => cases e
     | 1 => cases e; exact ⟨_, rfl, rfl⟩
     | i + 2 =>
       rw [List.getElem?_cons_succ, List.getElem?_cons_succ, List.getElem?_replicate] at e
       split at e <;> cases e
   · rw [List.length_set]
     simp [L2.start]
   · subst e
     cases o
     exact q H'
end L3
namespace L3
open PySem PySem.Spec
open PyProof.Rows hiding St
open L2
structure DC where
 (cb cc ce m2 m3 m4 : Int)
structure DC.Ok (c : DC) : Prop where
 (cc : -(2 ^ 64) < c.cc ∧ c.cc < 2 ^ 64) 
 (m2 : 0 < c.m2 ∧ c.m2 < 4294967296)
 (m3 : 0 < c.m3 ∧ c.m3 < 4294967296)
 (m4 : 0 < c.m4 ∧ c.m4 < 4294967296)
def tDealRG (K : PySem.W.Frag) (c : DC) : TS :=
 tSeq (tAsg (dAt "number") (gName 2))
 (tSeq (tIfS (tTest (tOp (rI0 fun i j => .bl (decide (j < i))) (tVar 2) (tC (.int 0))))
     (tSeq (sDPut (tVar 0) (tC (.str "number")) (tOp (rI CDiv fun i j => .int (i / j)) (tVar 2) (tVar 1))) (tRet (tOp (rI (fun _ j => 0 < j) fun i j => .int (i % j)) (tVar 2) (tVar 1)))) tNext)
 (tSeq (tAsg (tOp (rI (fun _ j => 0 < j) fun i j => .int (i % j)) (tOp (rI0 fun i j => .int (i + j)) (tOp (rI CMul fun i j => .int (i * j)) (dAt "seed") (tC (.int 48271))) (tC (.int c.cb))) (tC (.int 2147483647))) (gName 3))
 (tSeq (sDPut (tVar 0) (tC (.str "seed")) (tOp (rI (fun _ j => 0 < j) fun i j => .int (i % j)) (tOp (rI0 fun i j => .int (i + j)) (tOp (rI CMul fun i j => .int (i * j)) (tVar 3) (tC (.int c.cc))) (tC (.int c.ce))) (tC (.int c.m2))))
 (tSeq (tAsg (tOp (rI (fun _ j => 0 < j) fun i j => .int (i % j)) (tOp (rI CMul fun i j => .int (i * j)) (dAt "seed") (dAt "seed")) (tC (.int c.m3))) (gName 4))
 (tRet (tOp (rI (fun _ j => 0 < j) fun i j => .int (i % j)) (tOp (rI0 fun i j => .int (i + j)) (tOp (rI CMul fun i j => .int (i * j)) (tOp (rI (fun _ j => 0 < j) fun i j => .int (i % j)) (tOp (rI CMul fun i j => .int (i * j)) (tVar 3) (tVar 3)) (tC (.int c.m4))) (tC (.int c.m3))) (tVar 4)) (tVar 1)))))))
def tDealDG (K : PySem.W.Frag) (c : DC) : TS := tSeq (tDealW K) (tDealRG K c)
theorem dealRG_ok {K : PySem.W.Frag} {c : DC} (hc : c.Ok) {H : Hp} {a l : Addr} {s n : Int} {ns : List Int} {m : Int} {D : Ends} (p : DealAt H a l s n ns) (m0 : 0 < m) (m1 : m < 1073741824)
   (q : ∀ k H' s' n' ns', 0 ≤ k → k < m → DealAt H' a l s' n' ns' → PotStp a l H H' → D.rt (.int k) H') : tDealRG K c D [some (.ref a), some (.int m), none, none, none] H := by
 refine at_num p rfl ?_
 refine ⟨_, rfl, n, 0, rfl, rfl, _, rfl, ?_⟩
 refine ite2 (fun _ => ?_) (fun _ => ?_)
 · refine ⟨_, rfl, _, rfl, n, m, rfl, rfl, ⟨m0, m1⟩, ?_⟩
   refine ⟨_, rfl, a, _, rfl, put_n p _, ?_⟩
   exact ⟨_, rfl, _, rfl, n, m, rfl, rfl, m0, q _ _ s _ ns (Int.emod_nonneg _ (by omega)) (Int.emod_lt_of_pos _ m0) (p.setN (Int.ediv_nonneg p.n0 (by omega))) (.upA _)⟩
 · have s0 := p.s0
   have s1 := p.s1
   refine at_seed p rfl ?_
   refine ⟨s, 48271, rfl, rfl, .inl ⟨by omega, by omega⟩, ?_⟩
   refine ⟨_, _, rfl, rfl, _, _, rfl, rfl, (show (0 : Int) < 2147483647 by decide), ?_⟩
   dsimp only
   have e0 : 0 ≤ (s * 48271 + c.cb) % 2147483647 := Int.emod_nonneg _ (by decide)
   have e1 : (s * 48271 + c.cb) % 2147483647 < 2147483647 := Int.emod_lt_of_pos _ (by decide)
   generalize (s * 48271 + c.cb) % 2147483647 = one at e0 e1
   have hm2 := hc.m2
   have hm3 := hc.m3
   have hm4 := hc.m4
   refine ⟨_, rfl, one, c.cc, rfl, rfl, .inl ⟨by omega, by omega⟩, ?_⟩
   refine ⟨_, _, rfl, rfl, _, _, rfl, rfl, hm2.1, ?_⟩
   dsimp only
   have f0 : 0 ≤ (one * c.cc + c.ce) % c.m2 := Int.emod_nonneg _ (by omega)
   have f1 : (one * c.cc + c.ce) % c.m2 < c.m2 := Int.emod_lt_of_pos _ hm2.1
   generalize (one * c.cc + c.ce) % c.m2 = sd at f0 f1
   refine ⟨_, rfl, a, _, rfl, put_s p _, ?_⟩
   have p2 := p.setS (s' := sd) (by omega) (by omega)
   refine at_seed p2 rfl (at_seed p2 rfl ?_)
   refine ⟨sd, sd, rfl, rfl, .inl ⟨by omega, by omega⟩, _, _, rfl, rfl, hm3.1, ?_⟩
   have g0 : 0 ≤ one * one % c.m4 := Int.emod_nonneg _ (by omega)
   have g1 : one * one % c.m4 < c.m4 := Int.emod_lt_of_pos _ hm4.1
   refine ⟨_, rfl, _, rfl, one, one, rfl, rfl, .inl ⟨by omega, by omega⟩, ?_⟩
   refine ⟨_, _, rfl, rfl, hm4.1, _, _, rfl, rfl, .inl ⟨by omega, by omega⟩, ?_⟩
   refine ⟨_, rfl, _, _, rfl, rfl, _, rfl, _, _, rfl, rfl, m0, ?_⟩
   exact q _ _ _ _ _ (Int.emod_nonneg _ (by omega)) (Int.emod_lt_of_pos _ m0) p2 (.upA _)
theorem dealG_ok {K : PySem.W.Frag} {dc : DC} (hc : dc.Ok) {H : Hp} {a l : Addr} {s n : Int} {ns : List Int} {m : Int} {D : Ends} (p : DealAt H a l s n ns) (m0 : 0 < m) (m1 : m < 1073741824)
   (q : ∀ k H' s' n' ns', 0 ≤ k → k < m → DealAt H' a l s' n' ns' → PotStp a l H H' → D.rt (.int k) H') : tDealDG K dc D [some (.ref a), some (.int m), none, none, none] H := by
 refine ⟨fun c σ H' => σ = [some (.ref a), some (.int m), none, none, none] ∧ ∃ s n ns, c = ns.length ∧ DealAt H' a l s n ns ∧ PotStp a l H H', ⟨_, rfl, s, n, ns, rfl, p, .refl _ _ _⟩, ?_⟩
 rintro c σ H1 ⟨rfl, s, n, ns, rfl, p, st⟩
 have out : tDealRG K dc D [some (.ref a), some (.int m), none, none, none] H1 := dealRG_ok hc p m0 m1 fun k H' s' n' ns' h1 h2 h3 h4 => q k H' s' n' ns' h1 h2 h3 (st.trans h4)
 refine at_num p rfl ?_
 refine ⟨rfl, _, rfl, ?_⟩
 refine ite2 (fun c => ?_) (fun c => iteF out)
 refine at_left p rfl ?_
 refine ⟨_, _, rfl, .inl ⟨_, .of p.hl, rfl⟩, _, _, rfl, rfl, _, rfl, ?_⟩
 refine ite2 (fun c2 => ?_) (fun c2 => out)
 have c3 := of_decide_eq_true c2
 have hne : ns ≠ [] := fun e => by rw [e] at c3; simp at c3
 obtain ⟨r, x, rfl⟩ : ∃ r x, ns = r ++ [x] := ⟨ns.dropLast, ns.getLast hne, (List.dropLast_concat_getLast hne).symm⟩
 refine ⟨fun σ' H' => σ' = [some (.ref a), some (.int m), none, none, none] ∧ ∃ s n ns, ns.length < (r ++ [x]).length ∧ DealAt H' a l s n ns ∧ PotStp a l H H', fun σ' H' ⟨e, s, n, ns, hl, h1, h2⟩ => ⟨_, hl, e, s, n, ns, rfl, h1, h2⟩, ?_⟩
 refine at_left p rfl ?_
 have p1 : DealAt (upd H1 l (.lst ((r ++ [x]).map V.int).dropLast)) a l s n r := ⟨p.ne, by rw [upd_ne p.ne]; exact p.ha, by rw [upd_same, List.map_append]; show some (HO.lst (List.dropLast (_ ++ [V.int x]))) = _; rw [List.dropLast_concat], p.s0, p.s1, p.n0, fun z hz => p.ns0 z (List.mem_append_left _ hz)⟩
 refine ⟨.inl ⟨rfl, _, .of p.hl⟩, l, _, .int x, rfl, rfl, p.hl, by simp, ?_⟩
 refine ⟨_, rfl, a, _, rfl, put_n p1 x, rfl, s, x, r, by simp, p1.setN (p.ns0 x (by simp)), st.trans (PotStp.trans (.upL _) (.upA _))⟩
theorem dealDG_body {K : PySem.W.Frag} {c : DC} (hc : c.Ok) {O : Ob} {H : Hp} {ds : List PyData} {ws : List V} {Qr : R → Prop} {Q : VK} {x1 x2 x3 x4 x5 : Str} (hφ : IsDeal O) (p : O.P H) (is : IsAll K (unM O) H ws ds) (q : drawF ds Qr) (kk : ∀ r, Qr r → ∀ v H', Stp O H H' → Out K O H H' v r → Q v H') :
   tDealDG K c { nx := fun _ H' => Q .non H', rt := Q } (L2.start [x1, x2, x3, x4, x5] (O.v :: ws)) H := by
 obtain ⟨m, rfl, m0, m1, q⟩ := q
 obtain ⟨a, l, hv, ma, ml, h1, h2⟩ := hφ.ex
 obtain ⟨s, n, ns, pa⟩ := h1 H p
 obtain ⟨v, rfl, iv⟩ := isAll_one is
 cases iv
 rw [hv]
 exact dealG_ok hc pa m0 m1 fun k H' s' n' ns' k0 k1 p' st => kk _ (q k k0 k1) _ H' (deal_stp ma ml h2 pa p' st) (Is.int k)
def tMakeG (K : PySem.W.Frag) (ti ts : TE) : TS :=
 tSeq (tAsg (tComp 1 (iList K (tSl (rSlL K) (tVar 0) (tPart (tVar 1)) (tPart (tC (.int 63))))) (gName 0) tYes (tCB rMax2 (tCons (tVar 0) (tCons (tOp (rI0 fun i j => .int (i - j)) (tC (.int 0)) (tVar 0)) tNil)))) (gName 2))
 (tSeq (tAsg ti (gName 3))
 (tSeq (tFor (iList K (tVar 2)) (gName 4)
   (tAsg ts (gName 3)))
 (tRet (tDisp [(tC (.str "seed"), tVar 3), (tC (.str "number"), tC (.int 0)), (tC (.str "left"), tLR K (tComp 1 (iList K (tVar 2)) (gName 0) (tTest (tOp (rI0 fun i j => .bl (decide (j ≤ i))) (tVar 0) (tOp (rI CPow fun i j => .int (i ^ j.toNat)) (tC (.int 10)) (tC (.int 18))))) (tVar 0)))]))))
theorem makeG_body {K : PySem.W.Frag} {ti ts : TE} {s0 : Int} (hs0 : 0 ≤ s0) (hs1 : s0 < 4294967296) (hi : ∀ (v v1 : V) H Q, Q (.int s0) H → ti [some v, some (.int 0), some v1, none, none] H Q) (hst : ∀ (v v1 : V) (s n : Int) H Q, 0 ≤ s → s < 4294967296 → (∀ s', 0 ≤ s' → s' < 4294967296 → Q (.int s') H) → ts [some v, some (.int 0), some v1, some (.int s), some (.int n)] H Q) {H : Hp} {Q : VK} {a : Addr} {ns : List Int} (hS : SqL K H a (ns.map V.int)) (hl : ns.length ≤ 63)
   (q : ∀ p l s left H', H p = none → H l = none → Same H H' → DealAt H' p l s 0 left → Q (.ref p) H') : tMakeG K ti ts { nx := fun _ H' => Q .non H', rt := Q } [some (.ref a), some (.int 0), none, none, none] H := by
 have sL := sizeLine_eq
 refine ⟨_, rfl, _, rfl, _, rfl, 63, rfl, a, _, rfl, hS, fun c hc => ?_⟩
 rw [cutV_map]
 have hcl : (cutL ns (some 0) (some 63)).length ≤ 63 := by
   unfold cutL
   rw [List.length_take, List.length_drop]
   omega
 generalize cutL ns (some 0) (some 63) = cs at hcl
 refine ⟨c, rfl, ⟨_, .of upd_same⟩, ?_⟩
 have g1 : Same H (upd H c (.lst (cs.map V.int))) := L3.same_new hc _
 refine tcomp_ints (K := K) (c := c) (H := upd H c (.lst (cs.map V.int))) (σ := [some (.ref a), some (.int 0), none, none, none]) (tf := tYes) (te := tCB rMax2 (tCons (tVar 0) (tCons (tOp (rI0 fun i j => .int (i - j)) (tC (.int 0)) (tVar 0)) tNil))) (fun _ => true) (fun n => if 0 - n > n then 0 - n else n) (.of upd_same) hcl (fun n H' R r => r) (fun n H' R r => ⟨_, rfl, _, rfl, 0, n, rfl, rfl, n, 0 - n, rfl, r⟩) fun d hd => ?_
 have hcs : cs.filter (fun _ => true) = cs := List.filter_eq_self.mpr fun _ _ => rfl
 rw [hcs]
 have habs : ∀ n ∈ cs.map (fun n => if 0 - n > n then 0 - n else n), 0 ≤ n := fun n hn => by
   obtain ⟨m, _, rfl⟩ := List.mem_map.mp hn
   split <;> omega
 have hal : (cs.map (fun n => if 0 - n > n then 0 - n else n)).length ≤ 63 := by rw [List.length_map]; exact hcl
 generalize cs.map (fun n => if 0 - n > n then 0 - n else n) = es at habs hal
 have g2 : Same H (upd (upd H c (.lst (cs.map V.int))) d (.lst (es.map V.int))) := g1.trans (L3.same_new hd _)
 generalize eH : upd (upd H c (.lst (cs.map V.int))) d (.lst (es.map V.int)) = H1 at g2
 have hd1 : H1 d = some (.lst (es.map V.int)) := by rw [← eH]; exact upd_same
 refine hi _ _ _ _ ?_
 refine ⟨_, rfl, d, rfl, ⟨_, .of hd1⟩, ?_⟩
 refine for_list (xs := es.map V.int) (fun i σ H' => ∃ (s : Int) (o : Option V), σ = [some (.ref a), some (.int 0), some (.ref d), some (.int s), o] ∧ 0 ≤ s ∧ s < 4294967296 ∧ H' = H1) ?_ ?_ ?_ ?_
 · exact ⟨_, none, rfl, hs0, hs1, rfl⟩
 · rintro i σ H' hi ⟨s, o, rfl, h1, h2, rfl⟩
   exact .of hd1
 · rintro i x σ H' hx ⟨s, o, rfl, h1, h2, rfl⟩
   rw [List.getElem?_map] at hx
   obtain ⟨n, hn, rfl⟩ := Option.map_eq_some_iff.mp hx
   exact hst _ _ s n _ _ h1 h2 fun s' f0 f1 => ⟨_, _, rfl, f0, f1, rfl⟩
 · rintro σ H' ⟨s, o, rfl, h1, h2, rfl⟩
   intro p hp
   have npd : p ≠ d := fun z => by rw [z, hd1] at hp; cases hp
   refine ⟨_, rfl, ?_⟩
   have hd2 : upd H' p (.dK []) d = some (.lst (es.map V.int)) := by rw [upd_ne (Ne.symm npd)]; exact hd1
   refine ⟨_, rfl, d, rfl, ⟨_, .of hd2⟩, ?_⟩
   refine tcomp_ints (tf := tTest (tOp (rI0 fun i j => .bl (decide (j ≤ i))) (tVar 0) (tOp (rI CPow fun i j => .int (i ^ j.toNat)) (tC (.int 10)) (tC (.int 18))))) (te := tVar 0) (fun n => decide ((10 : Int) ^ (18 : Int).toNat ≤ n)) (fun n => n) (.of hd2) hal (fun n H' R r => ⟨_, rfl, 10, 18, rfl, rfl, ⟨by decide, by decide, by decide⟩, _, _, rfl, rfl, _, rfl, r⟩) (fun n H' R r => ⟨_, rfl, r⟩) fun e he => ?_
   rw [List.map_id']
   have hfl : ∀ n ∈ es.filter (fun n => decide ((10 : Int) ^ (18 : Int).toNat ≤ n)), 0 ≤ n := fun n hn => habs n (List.mem_filter.mp hn).1
   generalize es.filter (fun n => decide ((10 : Int) ^ (18 : Int).toNat ≤ n)) = left at hfl
   have npe : p ≠ e := fun z => by rw [← z, upd_same] at he; cases he
   refine ⟨e, _, rfl, .of upd_same, fun l hln => ?_⟩
   have npl : p ≠ l := fun z => by
     rw [← z, upd_ne npe, upd_same] at hln
     cases hln
   have nel : e ≠ l := fun z => by rw [← z, upd_same] at hln; cases hln
   have hlp : upd H' p (.dK []) l = none := by rw [upd_ne (Ne.symm nel)] at hln; exact hln
   have hlH : H' l = none := by rw [upd_ne (Ne.symm npl)] at hlp; exact hlp
   refine ⟨by rw [upd_ne npl, upd_ne npe]; exact upd_same, dealKv s 0 l, rfl, by show 3 ≤ 15; decide, ?_⟩
   have em : mergeK [] (dealKv s 0 l) = dealKv s 0 l := by
     have a1 : ¬ (kSeed = kNum) := by decide +kernel
     have a2 : ¬ (kSeed = kLeft) := by decide +kernel
     have a3 : ¬ (kNum = kLeft) := by decide +kernel
     simp [mergeK, dealKv, putK, a1, a2, a3]
   rw [em]
   have heH : H' e = none := by rw [upd_ne (Ne.symm npe)] at he; exact he
   have hm : (left.map V.int).reverse = left.reverse.map V.int := List.map_reverse.symm
   rw [hm]
   refine q p l s left.reverse _ (g2.free hp) (g2.free hlH) (fun b o eb => ?_) ⟨npl, upd_same, ?_, h1, h2, Int.le_refl 0, fun n hn => hfl n (List.mem_reverse.mp hn)⟩
   · have e1 := g2 b o eb
     have n1 : b ≠ p := fun z => by rw [z, hp] at e1; cases e1
     have n2 : b ≠ l := fun z => by rw [z, hlH] at e1; cases e1
     have n3 : b ≠ e := fun z => by rw [z, heH] at e1; cases e1
     rw [upd_ne n1, upd_ne n2, upd_ne n3, upd_ne n1]
     exact e1
   · rw [upd_ne (Ne.symm npl)]
     exact upd_same
end L3
namespace L10
open PySem PySem.Spec
open PyProof.Rows hiding St
open L2 L3
def top (i : Nat) : Stmt := PySem.Challenge.pw_lostpost_k10_refusals.main.body.getD i (.Pass ⟨0, 0, 0, 0⟩)
section
variable {P : Program} {w : World} {K : PySem.W.Frag} {mg : Str → Option Value} {base : Heap} {k : Nat}
abbrev DDraw (P : Program) (w : World) (K : PySem.W.Frag) (mg : Str → Option Value) (base : Heap) : Prop := Def3 P w K mg base 1 "_law_draw" ["_law_deal_here", "_law_many"] (spD K IsDeal 1 drawF)
abbrev sDeal : Stmt := top 10
theorem scDeal : FnScope ["_law_script", "_law_base", "_law_cells", "_law_number", "_law_cell"] ["_law_script", "_law_base"] (defScope sDeal) := ⟨rfl, rfl, rfl, by decide +kernel, rfl, by decide +kernel, by decide +kernel⟩
theorem d_law_deal (B : Blt mg) (T : Top3 K mg "_law_deal" sDeal) : Def3 P w K mg base 1 "_law_deal" ["_law_script", "_law_base"] (spDeal K) := by
 obtain ⟨f, fd, Fu, m⟩ := T.ex
 refine ⟨f, fd, Fu.ok scDeal (fun vs H Q E h => by obtain ⟨a, ns, rfl, _⟩ := h; rfl) (fun cdv A outer s H vs Q E hr h => ?_), m, Fu.kp, Fu.binds (fun _ _ _ _ _ _ us hl => len2 hl fun _ _ => rfl)⟩
 obtain ⟨a, ns, rfl, hS, hl, q⟩ := h
 refine ⟨tMakeG K (tOp (rI0 fun i j => .int (i + j)) (tC (.int 7919)) (tVar 1)) (tOp (rI (fun _ j => 0 < j) fun i j => .int (i % j)) (tOp (rI0 fun i j => .int (i + j)) (tOp (rI CMul fun i j => .int (i * j)) (tVar 3) (tC (.int 48271))) (tOp (rI (fun _ j => 0 < j) fun i j => .int (i % j)) (tVar 4) (tC (.int 2147483629)))) (tC (.int 2147483647))), ?_, makeG_body (s0 := 7919 + 0) (by decide) (by decide) (fun v v1 H Q q => ⟨_, rfl, 7919, 0, rfl, rfl, q⟩) (fun v v1 s n H Q h1 h2 q => ⟨_, rfl, s, 48271, rfl, rfl, .inl ⟨by omega, by omega⟩, _, rfl, n, 2147483629, rfl, rfl, (show (0 : Int) < 2147483629 by decide), _, _, rfl, rfl, _, _, rfl, rfl, (show (0 : Int) < 2147483647 by decide), q _ (Int.emod_nonneg _ (by decide)) (Int.lt_of_lt_of_le (Int.emod_lt_of_pos _ (by decide)) (by decide))⟩) hS hl q⟩
 have nd : (["_law_script", "_law_base", "_law_cells", "_law_number", "_law_cell"] : List Str).Nodup := by decide +kernel
 exact (pss_cons (ps_setComp (n0 := 2) nd rfl rfl rfl 1 (N' := ["_law_cell", "_law_script", "_law_base", "_law_cells", "_law_number", "._law_cell"]) (.of rfl (by kernel_rfl)) rfl (pi_list (pe_slice sl_list (pe_var (i := 0) rfl (by first | exact Or.inl rfl | exact Or.inr (Or.inl rfl) | exact Or.inr (Or.inr rfl))) (po_some (pe_var (i := 1) rfl (by first | exact Or.inl rfl | exact Or.inr (Or.inl rfl) | exact Or.inr (Or.inr rfl)))) (po_some pe_int))) (fun C s H ex => pg_name (of_decide_eq_true (by kernel_rfl)) rfl (by first | exact Or.inl rfl | exact Or.inr rfl) (by first | exact .inl rfl | exact .inr rfl)) (own_name (by decide)) (fun C s H ex => pf_nil) (fun C s H ex => pe_callB (call_max2 rfl) rfl B.max bt_max (pa_cons (pe_var (i := 0) rfl (by first | exact Or.inl rfl | exact Or.inr (Or.inl rfl) | exact Or.inr (Or.inr rfl))) (pa_cons (pe_op op_sub pe_int (pe_var (i := 0) rfl (by first | exact Or.inl rfl | exact Or.inr (Or.inl rfl) | exact Or.inr (Or.inr rfl)))) pa_nil))))
   (pss_cons (ps_set (i := 3) nd rfl (by first | exact Or.inl rfl | exact Or.inr rfl) (pe_op op_add pe_int (pe_var (i := 1) rfl (by first | exact Or.inl rfl | exact Or.inr (Or.inl rfl) | exact Or.inr (Or.inr rfl)))))
   (pss_cons (ps_for PassesOwn.never rfl (pi_list (pe_var (i := 2) rfl (by first | exact Or.inl rfl | exact Or.inr (Or.inl rfl) | exact Or.inr (Or.inr rfl)))) (pg_name (i := 4) nd rfl (by first | exact Or.inl rfl | exact Or.inr rfl)) (pss_one (ps_set (i := 3) nd rfl (by first | exact Or.inl rfl | exact Or.inr rfl) (pe_op op_mod (pe_op op_add (pe_op op_mul (pe_var (i := 3) rfl (by first | exact Or.inl rfl | exact Or.inr (Or.inl rfl) | exact Or.inr (Or.inr rfl))) pe_int) (pe_op op_mod (pe_var (i := 4) rfl (by first | exact Or.inl rfl | exact Or.inr (Or.inl rfl) | exact Or.inr (Or.inr rfl))) pe_int)) pe_int))))
   (pss_one (ps_ret (pe_disp (pps_cons pe_str (pe_var (i := 3) rfl (by first | exact Or.inl rfl | exact Or.inr (Or.inl rfl) | exact Or.inr (Or.inr rfl))) (pps_cons pe_str pe_int (pps_cons pe_str (pe_listrev (hr.hd) rfl B.list rfl B.reversed (pe_comp 1 (N' := ["_law_cell", "_law_script", "_law_base", "_law_cells", "_law_number", "._law_cell"]) (.of rfl (by kernel_rfl)) rfl (pi_list (pe_var (i := 2) rfl (by first | exact Or.inl rfl | exact Or.inr (Or.inl rfl) | exact Or.inr (Or.inr rfl)))) (fun C s H ex => pg_name (of_decide_eq_true (by kernel_rfl)) rfl (by first | exact Or.inl rfl | exact Or.inr rfl) (by first | exact .inl rfl | exact .inr rfl)) (own_name (by decide)) (fun C s H ex => pf_one (pt_cmpR op_ge (pe_var (i := 0) rfl (by first | exact Or.inl rfl | exact Or.inr (Or.inl rfl) | exact Or.inr (Or.inr rfl))) (pe_op op_pow pe_int pe_int) (nomark _))) (fun C s H ex => (pe_var (i := 0) rfl (by first | exact Or.inl rfl | exact Or.inr (Or.inl rfl) | exact Or.inr (Or.inr rfl)))))) pps_nil))) rfl rfl (by simp) (by decide)))))))
def dc : DC := ⟨7919, 40692, 104729, 2147483399, 2147483563, 2147483629⟩
theorem dc_ok : dc.Ok := ⟨by decide, by decide, by decide, by decide⟩
abbrev sDraw : Stmt := top 11
theorem scDraw : FnScope ["_law_deal_here", "_law_many", "_law_number", "_law_one", "_law_other"] ["_law_deal_here", "_law_many"] (defScope sDraw) := ⟨rfl, rfl, rfl, by decide +kernel, rfl, by decide +kernel, by decide +kernel⟩
theorem d_law_draw (B : Blt mg) (T : Top3 K mg "_law_draw" sDraw) : Def3 P w K mg base 1 "_law_draw" ["_law_deal_here", "_law_many"] (spD K IsDeal 1 drawF) := by
 obtain ⟨f, fd, Fu, m⟩ := T.ex
 refine ⟨f, fd, Fu.ok scDraw (spD_len rfl) (fun cdv A outer s H vs Q E hr h => ?_), m, Fu.kp, Fu.binds (fun _ _ _ _ _ _ us hl => len2 hl fun _ _ => rfl)⟩
 obtain ⟨O, ds, ws, Qr, ok, hφ, p, hl, rfl, is, q, kk⟩ := h
 refine ⟨tDealDG K dc, ?_, dealDG_body dc_ok hφ p is q kk⟩
 have nd : (["_law_deal_here", "_law_many", "_law_number", "_law_one", "_law_other"] : List Str).Nodup := by decide +kernel
 exact (pss_cons (ps_while PassesOwn.never (PW.pt (pw_and (pt_cmpR op_eq (pe_dget (hu_of hr) (pe_var (i := 0) rfl (by first | exact Or.inl rfl | exact Or.inr (Or.inl rfl) | exact Or.inr (Or.inr rfl))) pe_str (fun _ _ => rfl)) pe_int (nomark _)) (pw_and1 (pt_cmpR op_gt (pe_callB call_len rfl B.len bt_len (pa_cons (pe_dget (hu_of hr) (pe_var (i := 0) rfl (by first | exact Or.inl rfl | exact Or.inr (Or.inl rfl) | exact Or.inr (Or.inr rfl))) pe_str (fun _ _ => rfl)) pa_nil)) pe_int (nomark _))))) (pss_one (ps_dput (hu_of hr) (pe_var (i := 0) rfl (by first | exact Or.inl rfl | exact Or.inr (Or.inl rfl) | exact Or.inr (Or.inr rfl))) pe_str (pe_bm0 PySem.F.plainAttrs_list PySem.F.slot_list_pop PySem.F.type_list_pop mtr_pop (pe_dget (hu_of hr) (pe_var (i := 0) rfl (by first | exact Or.inl rfl | exact Or.inr (Or.inl rfl) | exact Or.inr (Or.inr rfl))) pe_str (fun _ _ => rfl))) rfl)))
   (pss_cons (ps_set (i := 2) nd rfl (by first | exact Or.inl rfl | exact Or.inr rfl) (pe_dget (hu_of hr) (pe_var (i := 0) rfl (by first | exact Or.inl rfl | exact Or.inr (Or.inl rfl) | exact Or.inr (Or.inr rfl))) pe_str (fun _ _ => rfl)))
   (pss_cons (ps_if (pt_cmpR op_gt (pe_var (i := 2) rfl (by first | exact Or.inl rfl | exact Or.inr (Or.inl rfl) | exact Or.inr (Or.inr rfl))) pe_int (nomark _)) (pss_cons (ps_dput (hu_of hr) (pe_var (i := 0) rfl (by first | exact Or.inl rfl | exact Or.inr (Or.inl rfl) | exact Or.inr (Or.inr rfl))) pe_str (pe_op op_fdiv (pe_var (i := 2) rfl (by first | exact Or.inl rfl | exact Or.inr (Or.inl rfl) | exact Or.inr (Or.inr rfl))) (pe_var (i := 1) rfl (by first | exact Or.inl rfl | exact Or.inr (Or.inl rfl) | exact Or.inr (Or.inr rfl)))) rfl) (pss_one (ps_ret (pe_op op_mod (pe_var (i := 2) rfl (by first | exact Or.inl rfl | exact Or.inr (Or.inl rfl) | exact Or.inr (Or.inr rfl))) (pe_var (i := 1) rfl (by first | exact Or.inl rfl | exact Or.inr (Or.inl rfl) | exact Or.inr (Or.inr rfl))))))) pss_nil)
   (pss_cons (ps_set (i := 3) nd rfl (by first | exact Or.inl rfl | exact Or.inr rfl) (pe_op op_mod (pe_op op_add (pe_op op_mul (pe_dget (hu_of hr) (pe_var (i := 0) rfl (by first | exact Or.inl rfl | exact Or.inr (Or.inl rfl) | exact Or.inr (Or.inr rfl))) pe_str (fun _ _ => rfl)) pe_int) pe_int) pe_int))
   (pss_cons (ps_dput (hu_of hr) (pe_var (i := 0) rfl (by first | exact Or.inl rfl | exact Or.inr (Or.inl rfl) | exact Or.inr (Or.inr rfl))) pe_str (pe_op op_mod (pe_op op_add (pe_op op_mul (pe_var (i := 3) rfl (by first | exact Or.inl rfl | exact Or.inr (Or.inl rfl) | exact Or.inr (Or.inr rfl))) pe_int) pe_int) pe_int) rfl)
   (pss_cons (ps_set (i := 4) nd rfl (by first | exact Or.inl rfl | exact Or.inr rfl) (pe_op op_mod (pe_op op_mul (pe_dget (hu_of hr) (pe_var (i := 0) rfl (by first | exact Or.inl rfl | exact Or.inr (Or.inl rfl) | exact Or.inr (Or.inr rfl))) pe_str (fun _ _ => rfl)) (pe_dget (hu_of hr) (pe_var (i := 0) rfl (by first | exact Or.inl rfl | exact Or.inr (Or.inl rfl) | exact Or.inr (Or.inr rfl))) pe_str (fun _ _ => rfl))) pe_int))
   (pss_one (ps_ret (pe_op op_mod (pe_op op_add (pe_op op_mul (pe_op op_mod (pe_op op_mul (pe_var (i := 3) rfl (by first | exact Or.inl rfl | exact Or.inr (Or.inl rfl) | exact Or.inr (Or.inr rfl))) (pe_var (i := 3) rfl (by first | exact Or.inl rfl | exact Or.inr (Or.inl rfl) | exact Or.inr (Or.inr rfl)))) pe_int) pe_int) (pe_var (i := 4) rfl (by first | exact Or.inl rfl | exact Or.inr (Or.inl rfl) | exact Or.inr (Or.inr rfl)))) (pe_var (i := 1) rfl (by first | exact Or.inl rfl | exact Or.inr (Or.inl rfl) | exact Or.inr (Or.inr rfl))))))))))))
end
end L10
namespace L3
open PySem PySem.Spec PySem.Calls
open PyProof.Rows hiding St
open L2
structure XGet (K : PySem.W.Frag) (C : Addr) : Prop where
 ga : PySem.W.findIn K (.ref C) "__getattribute__" = some (some (.builtin "BaseException.__getattribute__"))
 gn : PySem.W.findIn K (.ref C) "__getattr__" = some none
 base : PySem.W.mroIn K C (.type "BaseException") = some true
 obj : PySem.W.mroIn K C (.type "object") = some true
 dict : PySem.W.hasDictIn K C = true
 cls : PySem.W.findIn K (.ref C) "__class__" = some (some (.builtin "object.__class__"))
 cget : PySem.W.specialIn K (.builtin "object.__class__") "__get__" = some (some (.builtin "getset_descriptor.__get__"))
 ctk : PySem.W.takesIn K (.builtin "object.__class__") = some true
section
variable {prog : Program} {w : World} {A : Around} {E : Value → Shared → Prop} {K : PySem.W.Frag} {C x : Addr} {s : Shared} {f : Str} {v : Value} {ox od : Obj} {Q : Value → Shared → Prop} {fill expr : Bool} {tk : Tok}
theorem getby_x (X : K.In s.heap) (c : XGet K C) (I : PySem.W.InstAt s.heap x ox C (some od))
   (h : wpAny (model prog w) A.in1 (Builtin.«object.__getattribute__» ⟨[.ref x, .str f tk], []⟩) (fun fin s' => match fin with | .done (.ret v) => wpAny (model prog w) A (handedOut v) Q E s' | _ => False) (fun _ _ => False) s) :
   wpAny (model prog w) A (getAttrBy (.ref x) (.str f tk) fill expr) Q E s := by
 have FB := PySem.F.attr_ValueError
 have b0 := FB.ga.bind (.ref x)
 have L0 := I.type (M := model prog w)
 have L1 := PySem.W.looks_findIn (M := model prog w) X c.ga
 have L2 := PySem.W.looks_findIn (M := model prog w) X c.gn
 have sb : PySem.W.Looks (model prog w) s.heap (isInstance (.ref x) (.type "BaseException")) true := L0.andThen (PySem.W.looks_mroIn X c.base)
 unfold getAttrBy
 refine wpAny_holding (wpAny_bind (L0.here (wpAny_bind (L1.here ?_))))
 dsimp only
 rw [if_neg (by rw [Bool.and_eq_true]; rintro ⟨_, z⟩; revert z; decide +kernel)]
 unfold getAttrByItsOwn hookBefore
 rw [if_pos (show onTheHeap (Value.ref C) = true from rfl)]
 refine wpAny_bind (L2.here (wpAny_bind (wpAny_attempt (wpAny_holding ?_))))
 unfold callGetattribute
 rw [if_neg (by cases expr <;> decide)]
 unfold boundAndCalled
 rw [b0]
 refine wpAny_bind (wpAny_pure ?_)
 refine wpAny_call (codeAny_call_builtin FB.ga.plain PySem.F.entry_bexc_ga (@PySem.W.check_slot (model prog w) _ _ s "BaseException.__getattribute__" "BaseException" "__getattribute__" (.ref x) [.str f tk] [] _ (by decide +kernel) (by decide +kernel) sb (PySem.F.args_bexc_ga (.ref x) (.str f tk)) (wpAny_mono h (fun fin s' z => ?_) fun _ _ z => z.elim)))
 rcases fin with (_ | _ | _ | u) | c'
 · exact z.elim
 · exact z.elim
 · exact z.elim
 · exact z
 · exact z.elim
theorem get_x (X : K.In s.heap) (c : XGet K C) (I : PySem.W.InstAt s.heap x ox C (some od)) (no : PySem.W.findIn K (.ref C) f = some none) (hl : PySem.W.lookIn f od = some (some v)) (hv : PySem.W.handedIn v = true) (h : Q v { s with toks := s.toks + 1 }) :
   wpAny (model prog w) A (getAttr (.ref x) f expr) Q E s := by
 unfold getAttr
 refine wpAny_bind (wpAny_mkText (getby_x (s := { s with toks := s.toks + 1 }) X c I ?_))
 have hf := PySem.W.findObj_own c.dict no rfl hl
 have L0 := I.type (M := model prog w)
 have L1 := PySem.W.looks_find (M := model prog w) X I hf
 unfold Builtin.«object.__getattribute__»
 refine wpAny_bind (wpAny_pure (wpAny_bind (wpAny_pure (wpAny_bind (PySem.W.Looks.here (s := { s with toks := s.toks + 1 }) L0 (wpAny_bind (PySem.W.Looks.here (s := { s with toks := s.toks + 1 }) L1 ?_)))))))
 refine wpAny_pure ?_
 show wpAny _ _ (handedOut v) _ _ _
 rw [PySem.W.handedOut_of hv]
 exact wpAny_pure h
end
end L3
namespace L3
open PySem PySem.Spec PySem.Calls
open PyProof.Rows hiding St
open L2
section
variable {X : Cx} {pins : List (Addr × Obj)} {σ : St} {H : Hp} {s : Shared}
theorem xr_at {a C dx : Addr} {fs : List (Str × V)} (I : Inv X pins σ H s) (ha : H a = some (XR a C dx)) (hd : H dx = some (.xd fs)) :
   ∃ ox od, PySem.W.InstAt s.heap a ox C (some od) ∧ ∀ f, ∃ u, PySem.W.lookIn f od = some u ∧ RelO (fs.lookup f) u := by
 obtain ⟨o, vs, g, c, d, t⟩ := (I.hok a _ ha).1
 obtain ⟨mA, m, rl⟩ := I.hok dx _ hd
 obtain ⟨od, ho, hl⟩ := lookIn_ns m
 refine ⟨o, od, ⟨g, c, by unfold PySem.W.notCls; rw [t], by rw [d]; exact ho⟩, fun f => ⟨_, hl f, rl f⟩⟩
def plainV : V → Prop
 | .int _ => True
 | .str _ => True
 | _ => False
def tFldX (K : PySem.W.Frag) (f : Str) (te : TE) : TE := fun σ H Q => te σ H fun v H1 => ∃ a C dx fs y, v = .ref a ∧ H1 a = some (XR a C dx) ∧ H1 dx = some (.xd fs) ∧ XGet K C ∧ PySem.W.findIn K (.ref C) f = some none ∧ fs.lookup f = some y ∧ plainV y ∧ Q y H1
theorem pe_fldX {e : Expr} {f : Str} {pos : Pos} {te : TE} (he : PE X e te) (hb : attributeBase e f X.env (eval e X.env) = eval e X.env) : PE X (.Attribute e f pos) (tFldX X.K f te) := by
 intro pins s σ H Q I h
 refine attr_of hb (thn (he pins s σ H _ I h) fun u s1 ⟨v, H1, I1, rv, a, C, dx, fs, y, ev, ha, hd, c, no, hl, py, q⟩ => ?_)
 subst ev
 obtain rfl : u = Value.ref a := rv
 obtain ⟨ox, od, J, lk⟩ := xr_at I1 ha hd
 obtain ⟨u, l1, l2⟩ := lk f
 rw [hl] at l2
 cases u with
 | none => exact l2.elim
 | some u =>
   have hv : PySem.W.handedIn u = true := by
     cases y with
     | int i => obtain ⟨t, rfl⟩ := (show ∃ t, u = Value.int i t from l2); rfl
     | str x => obtain ⟨t, rfl⟩ := (show ∃ t, u = Value.str x t from l2); rfl
     | _ => exact py.elim
   exact get_x I1.kIn c J no l1 hv ⟨y, H1, I1.tok _, l2, q⟩
def Ldc (X : Cx) (x : Str) (cv : Value) : Prop := ∀ (E : Value → Shared → Prop) (pins : List (Addr × Obj)) (s : Shared) (σ : St) (H : Hp) (pos : Pos) (Q : Value → Shared → Prop), Inv X pins σ H s → Q cv s → wpAny (model X.prog X.w) X.A (eval (.Name x pos) X.env) Q E s
theorem ldc_own {x : Str} {cv : Value} (hg : Gl X x) (hm : X.mg x = some cv) (hd : (x == ("__debug__" : Str)) = false := by decide) : Ldc X x cv := fun E pins s σ H pos Q I q => ld_glob I hg hm q hd
theorem ldc_blt {x : Str} {cv : Value} (hg : Gl X x) (hm : X.mg x = none) (hv : bootBuiltins x = some cv) (hn : x ≠ "__name__" := by decide) (hd : (x == ("__debug__" : Str)) = false := by decide) : Ldc X x cv := fun E pins s σ H pos Q I q => ld_blt I hg hm hv q hn hd
end
end L3
namespace L3
open PySem PySem.Spec PySem.Calls
open PyProof.Rows hiding St
open L2
structure EA where
 le : Addr
 nt : Addr
 nh : Addr
 ns : Addr
 tm : Addr
 np : Addr
 ng : Addr
 nr : Addr
structure ErrC (K : PySem.W.Frag) (mg : Str → Option Value) (ea : EA) : Prop where
 le : mg "LostError" = some (.ref ea.le)
 nt : mg "NoText" = some (.ref ea.nt)
 nh : mg "NoHouse" = some (.ref ea.nh)
 ns : mg "NoStep" = some (.ref ea.ns)
 tm : mg "TooMany" = some (.ref ea.tm)
 np : mg "NoPaper" = some (.ref ea.np)
 ng : mg "NoGrammar" = some (.ref ea.ng)
 nr : mg "NoRow" = some (.ref ea.nr)
 vb : mg "ValueError" = none
 cc : CatchC K ea.le
abbrev bmV : List Value := [.type "ValueError", .type "Exception", .type "BaseException", .type "object"]
theorem passV (v : Value) : refuseLoop v "__setattr__" bmV = pure () := by kernel_rfl
structure Init1 (K : PySem.W.Frag) (f : Addr) (fl : Str) : Prop where
 ex : ∃ (qual an0 : Str) (params : Arguments) (scope : Scope) (oc kV doc pm cdv ct : Value) (od an : Option Addr) (osl : Array (Option Value)) (p1 p2 p3 p4 : Pos),
   K.lookup f = some ⟨oc, od, .func (PySem.W.fnOf "__init__" qual params [.Assign [.Attribute (.Name "self" p1) fl p2] (.Name an0 p3) p4] scope .none kV doc pm an cdv ct), osl⟩ ∧ PySem.W.codeIn K cdv qual = true ∧
   FnScope [("self" : Str), an0] [("self" : Str), an0] scope ∧ Vis scope "self" ∧ Vis scope an0 ∧ (an0 == ("__debug__" : Str)) = false ∧ (an0 == ("__classdict__" : Str)) = false ∧
   ∀ us : List Value, us.length = 2 → bindArgs (PySem.W.fnOf "__init__" qual params [.Assign [.Attribute (.Name "self" p1) fl p2] (.Name an0 p3) p4] scope .none kV doc pm an cdv ct) ⟨us, []⟩ = pure (([("self" : Str), an0] : List Str).zip us)
structure Raise1 (K : PySem.W.Frag) (LE C : Addr) (os : List Addr) (fl : Str) : Prop where
 get : XGet K C
 lost : PySem.W.mroIn K C (.ref LE) = some true
 val : PySem.W.kitOne K (.ref C) (.type "ValueError") = some true
 oth : ∀ D ∈ os, PySem.W.kitOne K (.ref C) (.ref D) = some false
 nof : PySem.W.findIn K (.ref C) fl = some none
 init : ∃ f, XMk K C f [fl] ∧ Init1 K f fl
section
variable {P : Program} {w : World} {K : PySem.W.Frag} {mg : Str → Option Value} {base : Heap} {C D LE f : Addr} {os : List Addr} {fl : Str}
def isStrV : Value → Bool
 | .str _ _ => true
 | _ => false
theorem strKeys_of {es : Array DictEntry} (h : (es.toList.all fun e => isStrV e.key) = true) : StrKeys es := fun e he => by
 have := List.all_eq_true.mp h e (Array.mem_toList_iff.mpr he)
 cases z : e.key with
 | str n t => exact ⟨n, t, rfl⟩
 | _ => rw [z] at this; cases this
theorem kit_self : PySem.W.kitOne K (.ref C) (.ref C) = some true := if_pos (by simp)
theorem kit_ref {b : Bool} {cd : ClassData} (ne : (C == D) = false) (hc : PySem.W.clsIn K D = some cd) (ht : PySem.W.typeIn K (.ref D) = some (.type "type")) (hm : PySem.W.mroIn K C (.ref D) = some b) : PySem.W.kitOne K (.ref C) (.ref D) = some b := by
 unfold PySem.W.kitOne
 rw [if_neg (fun z => by have := Value.ref.inj (beq_iff_eq.mp z); rw [this] at ne; simp at ne)]
 unfold PySem.W.kitCls
 simp only [hc, ht, Option.isSome_some, beq_self_eq_true, Bool.and_self, if_true]
 exact hm
theorem kit_val {b : Bool} (hm : PySem.W.mroIn K C (.type "ValueError") = some b) : PySem.W.kitOne K (.ref C) (.type "ValueError") = some b := by
 unfold PySem.W.kitOne
 rw [if_neg (show ¬ (Value.ref C == Value.type "ValueError") = true from fun z => nomatch beq_iff_eq.mp z)]
 unfold PySem.W.kitCls
 simp only [show PySem.W.kitMeta "ValueError" = true by decide +kernel, if_true]
 exact hm
theorem init1_ok (I : Init1 K f fl) : ∃ fd ps, FnOk P w K mg base CX0 1 f fd ps (spInit K [fl]) ∧ Binds K fd ps [] := by
 obtain ⟨qual, an0, params, scope, oc, kV, doc, pm, cdv, ct, od, an, osl, p1, p2, p3, p4, lk, hcd, S, v0, v1, d1, d2, hb⟩ := I.ex
 refine ⟨_, [("self" : Str), an0], fn_of lk hcd S (spInit_len rfl) fun A outer s H vs Q E hr h => ?_, .all hb⟩
 obtain ⟨x, C, ys, rfl, hl, hc, hx, hq⟩ := h
 match ys, hl with
 | [y], _ =>
 refine ⟨_, pss_one (ps_fldx (pe_var (i := 0) rfl v0 (by decide) (by decide)) (pe_var (i := 1) rfl v1 d1 d2) rfl), ?_⟩
 exact ⟨y, rfl, .ref x, rfl, x, C, rfl, hc fl List.mem_cons_self, .inl ⟨hx, fun d hd hdx => hq d hd hdx⟩⟩
theorem raise1_mk {N : Addr} {nm q : Str} {bs : List Value} {sn : List Str} {sub : List Value} {ab : Bool} {col : Option Bool} {dd ddL odN : Option Addr} {k0 k1 k2 k3 k5 : Option Value} {c0 ocN : Value} {cdL : ClassData} {slL oslN : Array (Option Value)} {es : Array DictEntry} {ep : Nat}
   (h1 : PySem.W.findIn K (.ref C) "__getattribute__" = some (some (.builtin "BaseException.__getattribute__"))) (h2 : PySem.W.findIn K (.ref C) "__getattr__" = some none) (h3 : PySem.W.mroIn K C (.type "BaseException") = some true) (h4 : PySem.W.mroIn K C (.type "object") = some true)
   (h5 : PySem.W.hasDictIn K C = true) (h6 : PySem.W.findIn K (.ref C) "__class__" = some (some (.builtin "object.__class__"))) (h7 : PySem.W.specialIn K (.builtin "object.__class__") "__get__" = some (some (.builtin "getset_descriptor.__get__"))) (h8 : PySem.W.takesIn K (.builtin "object.__class__") = some true)
   (h9 : PySem.W.mroIn K C (.ref LE) = some true) (h10 : PySem.W.mroIn K C (.type "ValueError") = some true) (h11 : PySem.W.findIn K (.ref C) fl = some none)
   (h12 : K.lookup C = some (excClassObj nm q C N bs (.ref LE :: bmV) true sn sub ab col dd k0 k1 k2 k3 k5 "ValueError.__new__"))
   (h13 : K.lookup LE = some ⟨c0, ddL, .cls cdL, slL⟩) (h14 : K.lookup cdL.ns = some ⟨ocN, odN, .dict es ep, oslN⟩) (h15 : StrKeys es) (h16 : nsFind es "__init__" = none)
   (h17 : PySem.W.findIn K (.ref C) "__init__" = some (some (.ref f))) (h18 : PySem.W.typeIn K (.ref f) = some (.type "function")) (h19 : PySem.W.keepIn K (.ref C) = true) (h20 : PySem.W.findIn K (.ref C) "__setattr__" = some (some (.builtin "object.__setattr__")))
   (h21 : ∀ D ∈ os, PySem.W.kitOne K (.ref C) (.ref D) = some false) (h22 : Init1 K f fl) : Raise1 K LE C os fl := by
 refine ⟨⟨h1, h2, h3, h4, h5, h6, h7, h8⟩, h9, kit_val h10, h21, h11, f, ⟨⟨nm, q, N, bs, _, bmV, sn, sub, ab, col, dd, k0, k1, k2, k3, k5, "ValueError", "ValueError.__new__", "ValueError.__init__", h12, fun h x => ownTail_of x h13 h14 h15 h16 .base, PySem.F.excBase_ValueError⟩, h17, h18, h19, fun n hn => ?_⟩, h22⟩
 rw [List.mem_singleton.mp hn]
 refine ⟨⟨_, by unfold PySem.W.clsIn; rw [h12], rfl, rfl, ?_, fun v => ?_⟩, h20, h11⟩
 · simp [List.contains_cons]
 · rw [refuseLoop_ref, refuseLoop_ref]; exact passV v
structure ErrIn (K : PySem.W.Frag) (ea : EA) : Prop where
 le : PySem.W.nsIn K mainGlobals "LostError" = some (some (.ref ea.le))
 nt : PySem.W.nsIn K mainGlobals "NoText" = some (some (.ref ea.nt))
 nh : PySem.W.nsIn K mainGlobals "NoHouse" = some (some (.ref ea.nh))
 ns : PySem.W.nsIn K mainGlobals "NoStep" = some (some (.ref ea.ns))
 tm : PySem.W.nsIn K mainGlobals "TooMany" = some (some (.ref ea.tm))
 np : PySem.W.nsIn K mainGlobals "NoPaper" = some (some (.ref ea.np))
 ng : PySem.W.nsIn K mainGlobals "NoGrammar" = some (some (.ref ea.ng))
 nr : PySem.W.nsIn K mainGlobals "NoRow" = some (some (.ref ea.nr))
 vb : PySem.W.nsIn K mainGlobals "ValueError" = some none
 cc : CatchC K ea.le
theorem errIn_mk {le nt nh ns tm np ng nr : Addr} {oc : Value} {od : Option Addr} {cd : ClassData} {sl : Array (Option Value)} (e1 : PySem.W.nsIn K mainGlobals "LostError" = some (some (.ref le))) (e2 : PySem.W.nsIn K mainGlobals "NoText" = some (some (.ref nt))) (e3 : PySem.W.nsIn K mainGlobals "NoHouse" = some (some (.ref nh))) (e4 : PySem.W.nsIn K mainGlobals "NoStep" = some (some (.ref ns)))
   (e5 : PySem.W.nsIn K mainGlobals "TooMany" = some (some (.ref tm))) (e6 : PySem.W.nsIn K mainGlobals "NoPaper" = some (some (.ref np))) (e7 : PySem.W.nsIn K mainGlobals "NoGrammar" = some (some (.ref ng))) (e8 : PySem.W.nsIn K mainGlobals "NoRow" = some (some (.ref nr))) (e9 : PySem.W.nsIn K mainGlobals "ValueError" = some none)
   (e10 : PySem.W.typeIn K (.ref le) = some (.type "type")) (e11 : K.lookup le = some ⟨oc, od, .cls cd, sl⟩) (e12 : PySem.W.mroIn K le (.type "BaseException") = some true) : ErrIn K ⟨le, nt, nh, ns, tm, np, ng, nr⟩ := ⟨e1, e2, e3, e4, e5, e6, e7, e8, e9, e10, ⟨_, _, _, _, e11⟩, e12⟩
theorem ErrIn.errC {h : Heap} {ea : EA} (X : K.In h) (G : h.Ns mainGlobals mg) (E : ErrIn K ea) : ErrC K mg ea :=
 ⟨PySem.W.mg_of X G E.le, PySem.W.mg_of X G E.nt, PySem.W.mg_of X G E.nh, PySem.W.mg_of X G E.ns, PySem.W.mg_of X G E.tm, PySem.W.mg_of X G E.np, PySem.W.mg_of X G E.ng, PySem.W.mg_of X G E.nr, PySem.W.mg_none_of X G E.vb, E.cc⟩
theorem init1_mk {qual an0 : Str} {params : Arguments} {scope : Scope} {oc kV doc pm cdv ct : Value} {od an : Option Addr} {osl : Array (Option Value)} {p1 p2 p3 p4 : Pos}
   (i1 : K.lookup f = some ⟨oc, od, .func (PySem.W.fnOf "__init__" qual params [.Assign [.Attribute (.Name "self" p1) fl p2] (.Name an0 p3) p4] scope .none kV doc pm an cdv ct), osl⟩) (i2 : PySem.W.codeIn K cdv qual = true)
   (i3 : FnScope [("self" : Str), an0] [("self" : Str), an0] scope) (i4 : Vis scope "self" ∧ Vis scope an0) (i5 : (an0 == ("__debug__" : Str)) = false ∧ (an0 == ("__classdict__" : Str)) = false)
   (i6 : ∀ us : List Value, us.length = 2 → bindArgs (PySem.W.fnOf "__init__" qual params [.Assign [.Attribute (.Name "self" p1) fl p2] (.Name an0 p3) p4] scope .none kV doc pm an cdv ct) ⟨us, []⟩ = pure (([("self" : Str), an0] : List Str).zip us)) : Init1 K f fl :=
 ⟨qual, an0, params, scope, oc, kV, doc, pm, cdv, ct, od, an, osl, p1, p2, p3, p4, i1, i2, i3, i4.1, i4.2, i5.1, i5.2, i6⟩
theorem no_nil : ∀ D ∈ ([] : List Addr), PySem.W.kitOne K (.ref C) (.ref D) = some false := fun _ h => (List.not_mem_nil h).elim
theorem no_cons {cd : ClassData} (ne : (C == D) = false) (hc : PySem.W.clsIn K D = some cd) (ht : PySem.W.typeIn K (.ref D) = some (.type "type")) (hm : PySem.W.mroIn K C (.ref D) = some false) (h : ∀ D ∈ os, PySem.W.kitOne K (.ref C) (.ref D) = some false) : ∀ E ∈ D :: os, PySem.W.kitOne K (.ref C) (.ref E) = some false := fun E hE => by
 rcases List.mem_cons.mp hE with rfl | z
 · exact kit_ref ne hc ht hm
 · exact h E z
end
abbrev RNoStep (K : PySem.W.Frag) (ea : EA) : Prop := Raise1 K ea.le ea.ns [ea.ng, ea.nh, ea.np, ea.nr, ea.nt, ea.tm] "at"
abbrev RNoText (K : PySem.W.Frag) (ea : EA) : Prop := Raise1 K ea.le ea.nt [ea.ng, ea.nh, ea.np, ea.nr, ea.ns, ea.tm] "at"
abbrev RNoPaper (K : PySem.W.Frag) (ea : EA) : Prop := Raise1 K ea.le ea.np [ea.ng, ea.nh, ea.nr, ea.ns, ea.nt, ea.tm] "at"
abbrev RNoGrammar (K : PySem.W.Frag) (ea : EA) : Prop := Raise1 K ea.le ea.ng [ea.nh, ea.np, ea.nr, ea.ns, ea.nt, ea.tm] "at"
abbrev RTooMany (K : PySem.W.Frag) (ea : EA) : Prop := Raise1 K ea.le ea.tm [ea.ng, ea.nh, ea.np, ea.nr, ea.ns, ea.nt] "most"
end L3
namespace L3
open PySem PySem.Spec PySem.Calls
open PyProof.Rows hiding St
open L2
structure Init2 (K : PySem.W.Frag) (f : Addr) (fl fm : Str) : Prop where
 ex : ∃ (qual a0 b0 : Str) (params : Arguments) (scope : Scope) (oc kV doc pm cdv ct : Value) (od an : Option Addr) (osl : Array (Option Value)) (p1 p2 p3 p4 q1 q2 q3 q4 : Pos),
   K.lookup f = some ⟨oc, od, .func (PySem.W.fnOf "__init__" qual params [.Assign [.Attribute (.Name "self" p1) fl p2] (.Name a0 p3) p4, .Assign [.Attribute (.Name "self" q1) fm q2] (.Name b0 q3) q4] scope .none kV doc pm an cdv ct), osl⟩ ∧ PySem.W.codeIn K cdv qual = true ∧
   FnScope [("self" : Str), a0, b0] [("self" : Str), a0, b0] scope ∧ Vis scope "self" ∧ Vis scope a0 ∧ Vis scope b0 ∧ (a0 == ("__debug__" : Str)) = false ∧ (a0 == ("__classdict__" : Str)) = false ∧ (b0 == ("__debug__" : Str)) = false ∧ (b0 == ("__classdict__" : Str)) = false ∧
   ∀ us : List Value, us.length = 3 → bindArgs (PySem.W.fnOf "__init__" qual params [.Assign [.Attribute (.Name "self" p1) fl p2] (.Name a0 p3) p4, .Assign [.Attribute (.Name "self" q1) fm q2] (.Name b0 q3) q4] scope .none kV doc pm an cdv ct) ⟨us, []⟩ = pure (([("self" : Str), a0, b0] : List Str).zip us)
structure Raise2 (K : PySem.W.Frag) (LE C : Addr) (os : List Addr) (fl fm : Str) : Prop where
 get : XGet K C
 lost : PySem.W.mroIn K C (.ref LE) = some true
 val : PySem.W.kitOne K (.ref C) (.type "ValueError") = some true
 oth : ∀ D ∈ os, PySem.W.kitOne K (.ref C) (.ref D) = some false
 nof : PySem.W.findIn K (.ref C) fl = some none
 nof2 : PySem.W.findIn K (.ref C) fm = some none
 init : ∃ f, XMk K C f [fl, fm] ∧ Init2 K f fl fm
section
variable {P : Program} {w : World} {K : PySem.W.Frag} {mg : Str → Option Value} {base : Heap} {C D LE f : Addr} {os : List Addr} {fl fm : Str}
theorem init2_ok (ne : ¬ fl = fm) (I : Init2 K f fl fm) : ∃ fd ps, FnOk P w K mg base CX0 1 f fd ps (spInit K [fl, fm]) ∧ Binds K fd ps [] := by
 obtain ⟨qual, a0, b0, params, scope, oc, kV, doc, pm, cdv, ct, od, an, osl, p1, p2, p3, p4, q1, q2, q3, q4, lk, hcd, S, v0, v1, v2, d1, d2, d3, d4, hb⟩ := I.ex
 refine ⟨_, [("self" : Str), a0, b0], fn_of lk hcd S (spInit_len rfl) fun A outer s H vs Q E hr h => ?_, .all hb⟩
 obtain ⟨x, C, ys, rfl, hl, hc, hx, hq⟩ := h
 match ys, hl with
 | [y, z], _ =>
 refine ⟨_, pss_cons (ps_fldx (pe_var (i := 0) rfl v0 (by decide) (by decide)) (pe_var (i := 1) rfl v1 d1 d2) rfl) (pss_one (ps_fldx (pe_var (i := 0) rfl v0 (by decide) (by decide)) (pe_var (i := 2) rfl v2 d3 d4) rfl)), ?_⟩
 refine ⟨y, rfl, .ref x, rfl, x, C, rfl, hc fl List.mem_cons_self, .inl ⟨hx, fun d hd hdx => ?_⟩⟩
 refine ⟨z, rfl, .ref x, rfl, x, C, rfl, hc fm (List.mem_cons_of_mem _ List.mem_cons_self), .inr ⟨d, [(fl, y)], upd_same, by rw [upd_ne hdx, upd_same], by simp, ?_⟩⟩
 have e : upd (upd (upd H d (.xd [(fl, y)])) x (XO x C (some d))) d (.xd (putF fm z [(fl, y)])) = upd (upd H d (.xd ([fl, fm].zip [y, z]))) x (XO x C (some d)) := by
   have e2 : putF fm z [(fl, y)] = [fl, fm].zip [y, z] := by
     rw [putF, if_neg ne, putF]
     rfl
   rw [e2]
   funext b
   by_cases h1 : b = d
   · subst h1; rw [upd_same, upd_ne hdx, upd_same]
   · rw [upd_ne h1]
     by_cases h2 : b = x
     · subst h2; rw [upd_same, upd_same]
     · rw [upd_ne h2, upd_ne h1, upd_ne h2, upd_ne h1]
 show Q .non _
 rw [e]
 exact hq d hd hdx
end
end L3
namespace L3
open PySem PySem.Spec PySem.Calls
open PyProof.Rows hiding St
open L2
section
variable {P : Program} {w : World} {K : PySem.W.Frag} {mg : Str → Option Value} {base : Heap} {C D LE f : Addr} {os : List Addr} {fl fm : Str}
theorem raise2_mk {N : Addr} {nm q : Str} {bs : List Value} {sn : List Str} {sub : List Value} {ab : Bool} {col : Option Bool} {dd ddL odN : Option Addr} {k0 k1 k2 k3 k5 : Option Value} {c0 ocN : Value} {cdL : ClassData} {slL oslN : Array (Option Value)} {es : Array DictEntry} {ep : Nat}
   (h1 : PySem.W.findIn K (.ref C) "__getattribute__" = some (some (.builtin "BaseException.__getattribute__"))) (h2 : PySem.W.findIn K (.ref C) "__getattr__" = some none) (h3 : PySem.W.mroIn K C (.type "BaseException") = some true) (h4 : PySem.W.mroIn K C (.type "object") = some true)
   (h5 : PySem.W.hasDictIn K C = true) (h6 : PySem.W.findIn K (.ref C) "__class__" = some (some (.builtin "object.__class__"))) (h7 : PySem.W.specialIn K (.builtin "object.__class__") "__get__" = some (some (.builtin "getset_descriptor.__get__"))) (h8 : PySem.W.takesIn K (.builtin "object.__class__") = some true)
   (h9 : PySem.W.mroIn K C (.ref LE) = some true) (h10 : PySem.W.mroIn K C (.type "ValueError") = some true) (h11 : PySem.W.findIn K (.ref C) fl = some none) (h23 : PySem.W.findIn K (.ref C) fm = some none)
   (h12 : K.lookup C = some (excClassObj nm q C N bs (.ref LE :: bmV) true sn sub ab col dd k0 k1 k2 k3 k5 "ValueError.__new__"))
   (h13 : K.lookup LE = some ⟨c0, ddL, .cls cdL, slL⟩) (h14 : K.lookup cdL.ns = some ⟨ocN, odN, .dict es ep, oslN⟩) (h15 : StrKeys es) (h16 : nsFind es "__init__" = none)
   (h17 : PySem.W.findIn K (.ref C) "__init__" = some (some (.ref f))) (h18 : PySem.W.typeIn K (.ref f) = some (.type "function")) (h19 : PySem.W.keepIn K (.ref C) = true) (h20 : PySem.W.findIn K (.ref C) "__setattr__" = some (some (.builtin "object.__setattr__")))
   (h21 : ∀ D ∈ os, PySem.W.kitOne K (.ref C) (.ref D) = some false) (h22 : Init2 K f fl fm) : Raise2 K LE C os fl fm := by
 refine ⟨⟨h1, h2, h3, h4, h5, h6, h7, h8⟩, h9, kit_val h10, h21, h11, h23, f, ⟨⟨nm, q, N, bs, _, bmV, sn, sub, ab, col, dd, k0, k1, k2, k3, k5, "ValueError", "ValueError.__new__", "ValueError.__init__", h12, fun h x => ownTail_of x h13 h14 h15 h16 .base, PySem.F.excBase_ValueError⟩, h17, h18, h19, fun n hn => ?_⟩, h22⟩
 have hf : PySem.W.findIn K (.ref C) n = some none := by
   rcases List.mem_cons.mp hn with rfl | z
   · exact h11
   · rw [List.mem_singleton.mp z]; exact h23
 refine ⟨⟨_, by unfold PySem.W.clsIn; rw [h12], rfl, rfl, ?_, fun v => ?_⟩, h20, hf⟩
 · simp [List.contains_cons]
 · rw [refuseLoop_ref, refuseLoop_ref]; exact passV v
theorem init2_mk {qual a0 b0 : Str} {params : Arguments} {scope : Scope} {oc kV doc pm cdv ct : Value} {od an : Option Addr} {osl : Array (Option Value)} {p1 p2 p3 p4 q1 q2 q3 q4 : Pos}
   (i1 : K.lookup f = some ⟨oc, od, .func (PySem.W.fnOf "__init__" qual params [.Assign [.Attribute (.Name "self" p1) fl p2] (.Name a0 p3) p4, .Assign [.Attribute (.Name "self" q1) fm q2] (.Name b0 q3) q4] scope .none kV doc pm an cdv ct), osl⟩) (i2 : PySem.W.codeIn K cdv qual = true)
   (i3 : FnScope [("self" : Str), a0, b0] [("self" : Str), a0, b0] scope) (i4 : Vis scope "self" ∧ Vis scope a0 ∧ Vis scope b0) (i5 : (a0 == ("__debug__" : Str)) = false ∧ (a0 == ("__classdict__" : Str)) = false ∧ (b0 == ("__debug__" : Str)) = false ∧ (b0 == ("__classdict__" : Str)) = false)
   (i6 : ∀ us : List Value, us.length = 3 → bindArgs (PySem.W.fnOf "__init__" qual params [.Assign [.Attribute (.Name "self" p1) fl p2] (.Name a0 p3) p4, .Assign [.Attribute (.Name "self" q1) fm q2] (.Name b0 q3) q4] scope .none kV doc pm an cdv ct) ⟨us, []⟩ = pure (([("self" : Str), a0, b0] : List Str).zip us)) : Init2 K f fl fm :=
 ⟨qual, a0, b0, params, scope, oc, kV, doc, pm, cdv, ct, od, an, osl, p1, p2, p3, p4, q1, q2, q3, q4, i1, i2, i3, i4.1, i4.2.1, i4.2.2, i5.1, i5.2.1, i5.2.2.1, i5.2.2.2, i6⟩
end
abbrev RNoHouse (K : PySem.W.Frag) (ea : EA) : Prop := Raise2 K ea.le ea.nh [ea.ng, ea.np, ea.nr, ea.ns, ea.nt, ea.tm] "word" "at"
end L3
namespace L3
open PySem PySem.Spec
open PyProof.Rows hiding St
open L2
mutual
def solid : PyData → Bool
 | .none => true
 | .int _ => true
 | .str _ => true
 | .tuple ds => solids ds
 | _ => false
def solids : List PyData → Bool
 | [] => true
 | d :: ds => solid d && solids ds
end
mutual
theorem eqv_solid : ∀ d e : PyData, solid d = true → solid e = true → (PyData.eqv d e = true ↔ d = e)
 | .none, e, _, h => by cases e <;> simp [PyData.eqv, solid] at *
 | .int i, e, _, h => by cases e <;> simp [PyData.eqv, solid] at *
 | .str x, e, _, h => by cases e <;> simp [PyData.eqv, solid] at *
 | .tuple ds, e, h0, h => by
   cases e with
   | tuple es =>
     have := eqv_solids ds es (by simpa [solid] using h0) (by simpa [solid] using h)
     simp only [PyData.eqv]
     rw [this]
     exact ⟨fun z => by rw [z], fun z => by cases z; rfl⟩
   | none => simp [PyData.eqv]
   | int _ => simp [PyData.eqv]
   | str _ => simp [PyData.eqv]
   | bool _ => simp [solid] at h
   | list _ => simp [solid] at h
   | dict _ => simp [solid] at h
 | .bool _, _, h, _ => by simp [solid] at h
 | .list _, _, h, _ => by simp [solid] at h
 | .dict _, _, h, _ => by simp [solid] at h
theorem eqv_solids : ∀ ds es : List PyData, solids ds = true → solids es = true → (PyData.eqvAll ds es = true ↔ ds = es)
 | [], [], _, _ => by simp [PyData.eqvAll]
 | [], _ :: _, _, _ => by simp [PyData.eqvAll]
 | _ :: _, [], _, _ => by simp [PyData.eqvAll]
 | d :: ds, e :: es, h, h' => by
   simp only [solids, Bool.and_eq_true] at h h'
   simp only [PyData.eqvAll, Bool.and_eq_true]
   rw [eqv_solid d e h.1 h'.1, eqv_solids ds es h.2 h'.2]
   simp
end
structure Nice (n b : Nat) (d : PyData) : Prop where
 lay : d.canLay0 = true
 sh : d.showable = true
 sho : d.leavesShort 13 = true
 dep : d.depth ≤ n
 bul : d.bulk ≤ b
 sol : solid d = true
theorem nice_str {x : Str} {b : Nat} (h : PyData.strOk x = true) (hb : x.length ≤ b) : Nice 0 b (.str x) := ⟨h, by simp [PyData.showable], short_str h, Nat.le_refl _, hb, rfl⟩
theorem nice_nil : Nice 1 0 (.tuple []) := ⟨rfl, by simp [PyData.showable, PyData.showableAll], by simp [PyData.leavesShort, PyData.leavesShortAll], by simp [PyData.depth, PyData.depthAll], Nat.le_refl _, rfl⟩
theorem nice_cons {n b b' : Nat} {d : PyData} {ds : List PyData} (h : Nice n b d) (h' : Nice (n + 1) b' (.tuple ds)) : Nice (n + 1) (b + 1 + b') (.tuple (d :: ds)) := by
 obtain ⟨a1, a2, a3, a4, a5, a6⟩ := h
 obtain ⟨b1, b2, b3, b4, b5, b6⟩ := h'
 simp only [PyData.canLay0, PyData.showable, PyData.leavesShort, PyData.depth, PyData.bulk, solid] at b1 b2 b3 b4 b5 b6
 refine ⟨?_, ?_, ?_, ?_, ?_, ?_⟩
 · simp only [PyData.canLay0, PyData.canLayAll0, a1, b1]; rfl
 · simp only [PyData.showable, PyData.showableAll, a2, b2]; rfl
 · simp only [PyData.leavesShort, PyData.leavesShortAll, a3, b3]; rfl
 · simp only [PyData.depth, PyData.depthAll]; omega
 · simp only [PyData.bulk, PyData.bulkAll]; omega
 · simp only [solid, solids, a6, b6]; rfl
theorem Nice.okD {n b : Nat} {d : PyData} (h : Nice n b d) (hn : n ≤ 60 := by decide) : L3.okD d = true := by
 unfold L3.okD
 rw [h.lay]
 have := h.dep
 simp
 omega
theorem eq_nice {n b n' b' : Nat} {neg : Bool} {d e : PyData} (h : Nice n b d) (h' : Nice n' b' e) (hn : n ≤ 60 := by decide) {q : Bool} (hq : q = true ↔ d = e) : eqF neg d e = some (.o (.bool (if neg then !q else q))) := by
 unfold eqF
 rw [if_pos (by rw [h.okD hn, h'.lay]; rfl)]
 have e1 : PyData.eqv d e = q := by
   have := (eqv_solid d e h.sol h'.sol).trans hq.symm
   cases h1 : PyData.eqv d e <;> cases q <;> simp_all
 rw [e1]
end L3
namespace L3
open PySem PySem.Spec
open PyProof.Rows hiding St
open L2
theorem repr_list {n b : Nat} {ds : List PyData} (h : Nice n b (.tuple ds)) (hn : n ≤ 60 := by decide) (hb : b ≤ 1048576 := by decide) : ∃ x, reprF [.list ds] = some (.o (.str x)) ∧ PyData.strOk x = true := by
 have h1 := h.lay
 have h2 := h.sh
 have h3 := h.dep
 have h4 := h.sho
 have h5 := h.bul
 have : (2 : Nat) ^ 20 = 1048576 := by decide
 exact repr_ok (by simpa [PyData.canLay0] using h1) (by simpa [PyData.showable] using h2) (by simp [PyData.depth] at h3 ⊢; omega) (by simpa [PyData.leavesShort] using h4) (by simp [PyData.bulk] at h5 ⊢; omega)
theorem eq_self {x : Str} {neg : Bool} (h : PyData.strOk x = true) : eqF neg (.str x) (.str x) = some (.o (.bool (!neg))) := by
 have := eq_nice (neg := neg) (nice_str h (Nat.le_refl _)) (nice_str h (Nat.le_refl _)) (q := true) (hq := ⟨fun _ => rfl, fun _ => rfl⟩)
 rw [this]
 cases neg <;> rfl
end L3
namespace HK
open PySem PySem.Spec PyProof.Rows
mutual
def hk : PyData → Bool
 | .int _ => true
 | .str _ => true
 | .tuple ds => hks ds
 | _ => false
def hks : List PyData → Bool
 | [] => true
 | d :: ds => hk d && hks ds
end
mutual
def hD (w : World) : PyData → Int
 | .int i => hashInt i
 | .str x => hashStr w x
 | .tuple ds => reduceHash (Builtin.Tuple.tupleHashOf (hDs w ds))
 | _ => 0
def hDs (w : World) : List PyData → List Int
 | [] => []
 | d :: ds => hD w d :: hDs w ds
end
mutual
def bv : PyData → Bool
 | .int _ => true
 | .tuple ds => bvs ds
 | _ => false
def bvs : List PyData → Bool
 | [] => true
 | d :: ds => bv d && bvs ds
end
mutual
def dr : PyData → Nat
 | .tuple ds => drs ds + 1
 | _ => 1
def drs : List PyData → Nat
 | [] => 0
 | d :: ds => dr d + drs ds
end
end HK
namespace HK
open PySem PySem.Spec PyProof.Rows PySem.W
mutual
def dlt : PyData → PyData → Bool
 | .int i, .int j => decide (i < j)
 | .str x, .str y => decide (x.cps.toList < y.cps.toList)
 | .tuple xs, .tuple ys => dlts xs ys
 | _, _ => false
def dlts : List PyData → List PyData → Bool
 | [], [] => false
 | [], _ :: _ => true
 | _ :: _, [] => false
 | x :: xs, y :: ys => if PyData.eqv x y then dlts xs ys else dlt x y
end
end HK
namespace L3
open PySem PySem.Spec PySem.Calls
open PyProof.Rows hiding St
open L2
section
variable {prog : Program} {w : World} {A : Around} {E : Value → Shared → Prop} {K : PySem.W.Frag} {C x : Addr} {s : Shared} {f : Str} {v : Value} {ox : Obj} {od : Option Obj} {Q : Value → Shared → Prop} {fill expr : Bool} {tk : Tok}
theorem getby_xo (X : K.In s.heap) (c : XGet K C) (I : PySem.W.InstAt s.heap x ox C od)
   (h : wpAny (model prog w) A.in1 (Builtin.«object.__getattribute__» ⟨[.ref x, .str f tk], []⟩) (fun fin s' => match fin with | .done (.ret v) => wpAny (model prog w) A (handedOut v) Q E s' | _ => False) (fun _ _ => False) s) :
   wpAny (model prog w) A (getAttrBy (.ref x) (.str f tk) fill expr) Q E s := by
 have FB := PySem.F.attr_ValueError
 have b0 := FB.ga.bind (.ref x)
 have L0 := I.type (M := model prog w)
 have L1 := PySem.W.looks_findIn (M := model prog w) X c.ga
 have L2 := PySem.W.looks_findIn (M := model prog w) X c.gn
 have sb : PySem.W.Looks (model prog w) s.heap (isInstance (.ref x) (.type "BaseException")) true := L0.andThen (PySem.W.looks_mroIn X c.base)
 unfold getAttrBy
 refine wpAny_holding (wpAny_bind (L0.here (wpAny_bind (L1.here ?_))))
 dsimp only
 rw [if_neg (by rw [Bool.and_eq_true]; rintro ⟨_, z⟩; revert z; decide +kernel)]
 unfold getAttrByItsOwn hookBefore
 rw [if_pos (show onTheHeap (Value.ref C) = true from rfl)]
 refine wpAny_bind (L2.here (wpAny_bind (wpAny_attempt (wpAny_holding ?_))))
 unfold callGetattribute
 rw [if_neg (by cases expr <;> decide)]
 unfold boundAndCalled
 rw [b0]
 refine wpAny_bind (wpAny_pure ?_)
 refine wpAny_call (codeAny_call_builtin FB.ga.plain PySem.F.entry_bexc_ga (@PySem.W.check_slot (model prog w) _ _ s "BaseException.__getattribute__" "BaseException" "__getattribute__" (.ref x) [.str f tk] [] _ (by decide +kernel) (by decide +kernel) sb (PySem.F.args_bexc_ga (.ref x) (.str f tk)) (wpAny_mono h (fun fin s' z => ?_) fun _ _ z => z.elim)))
 rcases fin with (_ | _ | _ | u) | c'
 · exact z.elim
 · exact z.elim
 · exact z.elim
 · exact z
 · exact z.elim
theorem class_xo {Q : Option Value → Shared → Prop} (X : K.In s.heap) (c : XGet K C) (I : PySem.W.InstAt s.heap x ox C od) (h : Q (some (.ref C)) { s with toks := s.toks + 1 }) : wpAny (model prog w) A (getAttr? (.ref x) "__class__") Q E s := by
 unfold getAttr? getAttrBy?
 refine wpAny_bind (wpAny_mkText (wpAny_bind (wpAny_attempt (getby_xo (s := { s with toks := s.toks + 1 }) X c I ?_))))
 have hf : PySem.W.findObj K C od "__class__" = some (.bind (.builtin "getset_descriptor.__get__") (.builtin "object.__class__")) := by
   obtain ⟨cd, hc, _⟩ := PySem.W.any_some c.dict
   unfold PySem.W.findObj
   rw [hc, Option.bind_some, c.cls, Option.bind_some]
   simp [c.cget, c.ctk]
 have L0 := I.type (M := model prog w)
 have L1 := PySem.W.looks_find (M := model prog w) X I hf
 unfold Builtin.«object.__getattribute__»
 refine wpAny_bind (wpAny_pure (wpAny_bind (wpAny_pure (wpAny_bind (PySem.W.Looks.here (s := { s with toks := s.toks + 1 }) L0 (wpAny_bind (PySem.W.Looks.here (s := { s with toks := s.toks + 1 }) L1 ?_)))))))
 show wpAny _ _ (Builtin.ObjectAttr.bindTo _ _ _ _) _ _ _
 unfold Builtin.ObjectAttr.bindTo
 refine wpAny_bind (wpAny_holding (wpAny_call (PySem.W.class_get (s := { s with toks := s.toks + 1 }) X I c.obj ?_)))
 refine wpAny_pure ?_
 show wpAny _ _ (handedOut (.ref C)) _ _ _
 exact wpAny_pure (wpAny_pure h)
end
theorem kitx_xo {K : PySem.W.Frag} {x C : Addr} {ox : Obj} {od : Option Obj} (c : XGet K C) : PySem.W.KitX K (.ref x) (.ref C) (fun h => PySem.W.InstAt h x ox C od) := by
 obtain ⟨cd, hc, _⟩ := PySem.W.any_some c.dict
 have hl : ∃ oc dd sl, K.lookup C = some ⟨oc, dd, .cls cd, sl⟩ := by
   unfold PySem.W.clsIn at hc
   split at hc
   · rename_i oc dd cd' sl ho
     cases hc
     exact ⟨oc, dd, sl, ho⟩
   · cases hc
 obtain ⟨oc, dd, sl, hl⟩ := hl
 refine ⟨fun _ _ _ I => I.type, fun M h X _ => ?_, fun h tp dd' its n sl' X htp => ?_, fun X I k => class_xo X c I k⟩
 · intro A1 Q1 E1 s1 k1 z1
   exact wpAny_bind (wpAny_loadPart (k1 _ _ (X _ _ hl)) (wpAny_pure z1))
 · refine Bool.eq_false_iff.mpr fun q => ?_
   have e : C = tp := Value.ref.inj (beq_iff_eq.mp q)
   rw [← e, X _ _ hl] at htp
   cases htp
def XN0 (a C : Addr) : HO := .ext fun h => ∃ o vs, h.get? a = some o ∧ o.cls = .ref C ∧ o.dict = none ∧ o.data = .fields vs
def InsH (H : Hp) (a C : Addr) : Prop := (∃ dx fs, H a = some (XR a C dx) ∧ H dx = some (.xd fs)) ∨ H a = some (XN0 a C)
section
variable {X : Cx} {pins : List (Addr × Obj)} {σ : St} {H : Hp} {s : Shared}
theorem ins_at {a C : Addr} (I : Inv X pins σ H s) (h : InsH H a C) : ∃ ox od, PySem.W.InstAt s.heap a ox C od := by
 rcases h with ⟨dx, fs, ha, hd⟩ | ha
 · obtain ⟨ox, od, J, _⟩ := xr_at I ha hd
   exact ⟨ox, some od, J⟩
 · obtain ⟨o, vs, g, c, d, t⟩ := (I.hok a _ ha).1
   exact ⟨o, none, ⟨g, c, by unfold PySem.W.notCls; rw [t], by rw [d]; trivial⟩⟩
def tIsE (K : PySem.W.Frag) (cv : Value) (te : TE) : TE := fun σ H Q => te σ H fun v H1 => ∃ a C b, v = .ref a ∧ InsH H1 a C ∧ XGet K C ∧ PySem.W.kitOne K (.ref C) cv = some b ∧ Q (.bl b) H1
theorem pe_isE {e : Expr} {te : TE} {x : Str} {cv : Value} {p1 p2 p3 : Pos} (gi : Gl X "isinstance") (mi : X.mg "isinstance" = none) (l : Ldc X x cv) (he : PE X e te)
   (s1 : starEach [e, .Name x p2] X.env = (false, eval e X.env) :: (false, eval (.Name x p2) X.env) :: starEach [] X.env := by rfl) (s2 : starEach [e, .Name x p2] X.env = (false, eval e X.env) :: starEach [.Name x p2] X.env := by rfl) (s3 : (backTo p3 (starEach [.Name x p2] X.env)).any (·.1) = false := by rfl) :
   PE X (.Call (.Name "isinstance" p1) [e, .Name x p2] [] p3) (tIsE X.K cv te) := by
 intro pins s σ H Q I h
 refine wpAny_Call_Name_kw (ld_blt I gi mi (u := .builtin "isinstance") (by decide +kernel) ?_)
 refine PyProof.Rows.callWith_builtin1 ?_ s2 s3
 rw [s1]
 show wpAny _ _ (spliced ((false, eval e X.env) :: (false, eval (.Name x p2) X.env) :: [])) _ _ s
 refine Calls.spliced_cons (thn (he pins s σ H _ I h) fun u s' ⟨y, H1, I1, r1, a, C, b, ev, hi, c, ek, q⟩ => ?_)
 subst ev
 obtain rfl : u = Value.ref a := r1
 refine Calls.spliced_cons (l _ _ _ _ _ _ _ I1 (Calls.spliced_nil ?_))
 obtain ⟨ox, od, J⟩ := ins_at I1 hi
 exact PySem.W.kia_one (kitx_xo c) I1.kIn J ek (fun z => nomatch z) fun tk => ⟨.bl b, H1, I1.tok _, rfl, q⟩
def tMkX (C : Addr) (ns : List Str) (t : TA) : TE := fun σ H Q => t σ H fun vs H1 => vs.length = ns.length ∧ ∀ x d, H1 x = none → H1 d = none → d ≠ x → Q (.ref x) (upd (upd H1 d (.xd (ns.zip vs))) x (XR x C d))
theorem pe_mkx {k : Nat} {C f : Addr} {fd : FuncData} {ps ns : List Str} {x : Str} {e : Expr} {es : List Expr} {np cpos : Pos} {t : TA} (M : XMk X.K C f ns) (F : FnOk X.prog X.w X.K X.mg X.base CX0 k f fd ps (spInit X.K ns)) (hr : Room (k + 1) X.A) (hb : Binds X.K fd ps []) (hz : ns.length ≤ 1000)
   (hg : Gl X x) (hm : X.mg x = some (.ref C)) (ha : PA X (e :: es) t) (hdb : (x == ("__debug__" : Str)) = false := by decide) (he : starEach (e :: es) X.env = (false, eval e X.env) :: starEach es X.env := by rfl) (hpl : (backTo cpos (starEach es X.env)).any (·.1) = false := by rfl) :
   PE X (.Call (.Name x np) (e :: es) [] cpos) (tMkX C ns t) := by
 intro pins s σ H Q I h
 refine wpAny_Call_Name_kw (ld_glob I hg hm ?_ hdb)
 refine PySem.W.callWith_K (h₀ := X.base) I.ok.mod.kin M.kp (thn (ha cpos pins s σ H _ I h) fun us s1 ⟨vs, H1, I1, r, hl, hq⟩ => ⟨I1.kIn, ?_⟩) he hpl
 refine run_makex M F hr hb I1 r hl hz fun s' x d I2 sx nx nd dx => ?_
 obtain ⟨t, g⟩ := XO.at I2 upd_same
 have I3 : Inv X pins σ (upd (upd H1 d (.xd (ns.zip vs))) x (XR x C d)) { s' with heap := s'.heap, toks := s'.toks } :=
   Inv.chg I2 (fun b => b = x) (fun b hb => .inr (by subst hb; rw [upd_same]; exact trivial)) (fun b u _ g => g) (fun b hb => by subst hb; exact ⟨_, g⟩) (fun b nb => by rw [upd_ne nb, upd_ne nb]) fun b o hb e => by
     subst hb
     rw [upd_same] at e
     cases e
     exact ⟨⟨_, _, g, rfl, rfl, rfl⟩, ⟨_, g⟩, fun h1 h2 ⟨u, vs, g, r⟩ k => ⟨u, vs, k _ g, r⟩⟩
 exact ⟨.ref x, _, I3, rfl, hq x d nx nd dx⟩
structure XMk0 (K : PySem.W.Frag) (C : Addr) : Prop where
 cls : ∃ (nm q : Str) (N : Addr) (bs bm bmB : List Value) (sn : List Str) (sub : List Value) (ab : Bool) (col : Option Bool) (dd : Option Addr) (k0 k1 k2 k3 k5 : Option Value) (B newId initId : String),
   K.lookup C = some (excClassObj nm q C N bs bm true sn sub ab col dd k0 k1 k2 k3 k5 newId) ∧ (∀ h : Heap, K.In h → OwnTail h bmB bm) ∧ PySem.W.findIn K (.ref C) "__init__" = some (some (.builtin initId)) ∧ ExcBaseFacts B newId initId bmB
 kp : PySem.W.keepIn K (.ref C) = true
end
section
variable {prog : Program} {w : World} {A : Around} {K : PySem.W.Frag} {C N : Addr} {s : Shared} {E : Value → Shared → Prop} {Q : Value → Shared → Prop}
variable {nm q : Str} {bs bm bmB : List Value} {sn : List Str} {sub : List Value} {ab : Bool} {col : Option Bool} {dd : Option Addr} {k0 k1 k2 k3 k5 : Option Value} {B newId initId : String}
theorem make_x0 (X : K.In s.heap) (hC : K.lookup C = some (excClassObj nm q C N bs bm true sn sub ab col dd k0 k1 k2 k3 k5 newId)) (T : OwnTail s.heap bmB bm) (F : ExcBaseFacts B newId initId bmB)
   (hi : PySem.W.findIn K (.ref C) "__init__" = some (some (.builtin initId)))
   (h : ∀ h' : Heap, (∀ b o, s.heap.get? b = some o → h'.get? b = some o) → (∃ o vs, h'.get? (s.heap.objs.size + 1) = some o ∧ o.cls = .ref C ∧ o.dict = none ∧ o.data = .fields vs) → Q (.ref (s.heap.objs.size + 1)) { s with heap := h' }) :
   wpAny (model prog w) A (call (.ref C) []) Q E s := by
 obtain ⟨hh, g, d, tk, os⟩ := s
 have gC := X _ _ hC
 have t1 := tc_lookup
 have t2 := tc_bind (.ref C)
 have tT : (⟨hh, g, d, tk, os⟩ : Shared).TypeIs (.ref C) "type" := ⟨_, gC, rfl⟩
 refine wpAny_call (codeAny_of_tree ?_)
 show wpAny _ _ (callAny (.ref C) _) _ _ _
 repeat (any_goals (first | assumption | with_reducible refine wpAny_loadPart_at gC ?_ | wp_step))
 refine ⟨rfl, ?_⟩
 refine codeAny_call_builtin_at (Code.quiet_builtin _ (by decide +kernel)) entry_typeCall (wpAny_check_type_call_sub gC ?_)
 repeat (first | with_reducible refine wpAny_loadPart_at gC ?_ | with_reducible refine wpAny_madeBy_exc gC ?_ | wp_step)
 refine codeAny_call_builtin_code (Code.quiet_builtin _ F.quiet) (wpAny_check_new_subT F T gC (codeAny_exc_new_subT F T gC ?_ (by size_fits)))
 show wpAny _ _ _ _ _ _
 have kp : ∀ b o, hh.get? b = some o → ((hh.push (tupOf [])).push (excOf C hh.objs.size)).get? b = some o := fun b o z => Heap.get?_push_of_some _ (Heap.get?_push_of_some _ z)
 have gC1 := kp _ _ gC
 have X1 := X.keeps kp
 have T1 := T.keeps (h' := (hh.push (tupOf [])).push (excOf C hh.objs.size)) kp
 have gx : ((hh.push (tupOf [])).push (excOf C hh.objs.size)).get? (hh.objs.size + 1) = some (excOf C hh.objs.size) := by heap_get
 have cC : (Value.ref C :: bm).contains (.ref C) = true := by simp
 have tx : PySem.W.Looks (model prog w) ((hh.push (tupOf [])).push (excOf C hh.objs.size)) (typeOf (.ref (hh.objs.size + 1))) (.ref C) := (PySem.W.Looks.ld gx).andThen .now
 have sx : PySem.W.Looks (model prog w) ((hh.push (tupOf [])).push (excOf C hh.objs.size)) (isSubtype (.ref C) (.ref C)) true := fun A1 Q1 E1 s1 k1 z1 => by
   obtain ⟨h1, g1, d1, u1, o1⟩ := s1
   refine wpAny_isSubtype_exc (k1 _ _ gC1) ?_
   rw [cC]
   exact z1
 have ix := PySem.W.looks_findIn (M := model prog w) X1 hi
 have nx : PySem.W.Looks (model prog w) ((hh.push (tupOf [])).push (excOf C hh.objs.size)) (isInstance (.ref (hh.objs.size + 1)) (.ref C)) true := tx.andThen sx
 refine wpAny_bind (nx.here ?_)
 rw [if_neg (by decide)]
 unfold callSpecial? specialOf
 refine wpAny_bind (wpAny_holding (wpAny_bind (wpAny_bind (tx.here ?_))))
 refine ix.here ?_
 refine wpAny_holding (wpAny_bind (wpAny_of_eq (F.init.bind _) ?_))
 refine wpAny_bind (wpAny_call (codeAny_call_builtin F.init.plain F.initEntry (wpAny_check_init_subT F T1 gC1 gx rfl ?_)))
 wp_walk
 refine h _ (fun b o hb => ?_) ⟨_, _, Heap.get?_update_self _ (Heap.get?_push_of_some _ gx) rfl, rfl, rfl, rfl⟩
 rw [Heap.get?_update_other _ _ (Nat.ne_of_gt (Nat.lt_succ_of_lt (Heap.lt_size hb)))]
 exact Heap.get?_push_of_some _ (kp _ _ hb)
end
section
variable {X : Cx}
def tMk0 (C : Addr) : TE := fun σ H Q => ∀ x, H x = none → Q (.ref x) (upd H x (XN0 x C))
theorem pe_mk0 {C : Addr} {x : Str} {np cpos : Pos} (M : XMk0 X.K C) (hg : Gl X x) (hm : X.mg x = some (.ref C)) (hdb : (x == ("__debug__" : Str)) = false := by decide) : PE X (.Call (.Name x np) [] [] cpos) (tMk0 C) := by
 intro pins s σ H Q I h
 obtain ⟨nm, q, N, bs, bm, bmB, sn, sub, ab, col, dd, k0, k1, k2, k3, k5, B, newId, initId, hC, T, hi, EB⟩ := M.cls
 refine wpAny_Call_Name_kw (ld_glob I hg hm ?_ hdb)
 refine PySem.W.callWith_K0 I.kIn M.kp ?_
 refine make_x0 I.kIn hC (T _ I.kIn) EB hi fun h' kp ⟨o, vs, g1, r⟩ => ?_
 have ne : H (s.heap.objs.size + 1) = none := I.hok.fresh (Nat.le_succ _)
 refine ⟨.ref _, _, Inv.laid (a := s.heap.objs.size + 1) (o := XN0 _ C) (t' := s.toks) I kp (Nat.le_succ _) ⟨⟨_, _, g1, r⟩, ⟨_, g1⟩, fun h1 h2 ⟨u, vs, g, r⟩ k => ⟨u, vs, k _ g, r⟩⟩, rfl, h _ ne⟩
end
end L3
namespace HK
open PySem PySem.Spec PyProof.Rows PySem.SetTable
noncomputable instance : DecidableEq PyData := fun a b => Classical.propDecidable (a = b)
end HK
namespace L3
open PySem PySem.Spec
open PyProof.Rows hiding St
open L2
def ArgV (K : PySem.W.Frag) (O : Ob) (H : Hp) (v : V) (r : DV) : Prop := (∃ d, r = .im d ∧ Is K (unM O) H v d) ∨ (∃ f ds, r = .rd f ds ∧ SeenV K O H v (.rd f ds)) ∨ (r = .ob ∧ v = O.v) ∨ ∃ T, r = .thr T ∧ SeenV K O H v (.thr T)
def Args (K : PySem.W.Frag) (O : Ob) (H : Hp) : List V → List DV → Prop
 | [], [] => True
 | v :: vs, r :: rs => ArgV K O H v r ∧ Args K O H vs rs
 | _, _ => False
theorem Args.length {K : PySem.W.Frag} {O : Ob} {H : Hp} : ∀ {vs : List V} {rs : List DV}, Args K O H vs rs → vs.length = rs.length
 | [], [], _ => rfl
 | _ :: _, _ :: _, h => by rw [List.length_cons, List.length_cons, Args.length h.2]
theorem Args.get {K : PySem.W.Frag} {O : Ob} {H : Hp} : ∀ {vs : List V} {rs : List DV} {i : Nat} {r : DV}, Args K O H vs rs → rs[i]? = some r → ∃ v, vs[i]? = some v ∧ ArgV K O H v r
 | [], [], _, _, _, e => by simp at e
 | [], _ :: _, _, _, h, _ => h.elim
 | _ :: _, [], _, _, h, _ => h.elim
 | _ :: _, _ :: _, 0, _, h, e => by cases e; exact ⟨_, rfl, h.1⟩
 | _ :: _, _ :: _, i + 1, _, h, e => by
   obtain ⟨v, h1, h2⟩ := Args.get (i := i) h.2 (by simpa using e)
   exact ⟨v, by simpa using h1, h2⟩
def spG (K : PySem.W.Frag) (φ : Ob → Prop) (n : Nat) (f : List DV → (R → Prop) → Prop) : Sp := fun vs H Q _ =>
 ∃ (O : Ob) (rs : List DV) (Qr : R → Prop), O.Ok ∧ φ O ∧ O.P H ∧ rs.length = n ∧ Args K O H vs rs ∧ f rs Qr ∧ ∀ r, Qr r → ∀ v H', Stp O H H' → Out K O H H' v r → Q v H'
theorem spG_len {K : PySem.W.Frag} {φ : Ob → Prop} {n : Nat} {f : List DV → (R → Prop) → Prop} {ps : List Str} (hn : ps.length = n) : ∀ vs H Q E, spG K φ n f vs H Q E → vs.length = ps.length := fun vs H Q E zz => by obtain ⟨O, rs, _, _, _, _, h, is, _⟩ := zz; rw [is.length, h, hn]
abbrev DGA := DSt → (List DV → Prop) → Prop
def AG (K : PySem.W.Frag) (O : Ob) (t : TA) (f : DGA) : Prop :=
 ∀ (σ : St) (H : Hp) (ρ : DSt) (Q : List V → Hp → Prop) (Qd : List DV → Prop), Seen K O H σ ρ → f ρ Qd → (∀ vs H' rs, Stp O H H' → Args K O H' vs rs → Qd rs → Q vs H') → t σ H Q
def gNilA : DGA := fun _ Q => Q []
section
variable {K : PySem.W.Frag} {O : Ob}
theorem ag_nil : AG K O tNil gNilA := fun σ H ρ Q Qd S h k => k [] H [] (.refl _ _) trivial h
def gThrA (n : Nat) (g : DGA) : DGA := fun ρ Q => ∃ T, ρ[n]? = some (some (.thr T)) ∧ g ρ fun rs => Q (.thr T :: rs)
theorem ag_thr {n : Nat} {u : TA} {g : DGA} (h' : AG K O u g) : AG K O (tCons (tVar n) u) (gThrA n g) := fun σ H ρ Q Qd S hf k => by
 obtain ⟨T, e, q⟩ := hf
 obtain ⟨v, h1, h2⟩ := S.at_ n _ e
 refine ⟨v, h1, ?_⟩
 refine h' σ H ρ _ _ S q fun vs H2 rs s2 a2 q2 => ?_
 exact k (v :: vs) H2 (.thr T :: rs) s2 ⟨.inr (.inr (.inr ⟨T, rfl, SeenV.stp s2 h2⟩)), a2⟩ q2
def calG (n : Nat) (f : List DV → (R → Prop) → Prop) (g : DGA) : DE := fun ρ Q => g ρ fun rs => rs.length = n ∧ f rs Q
theorem ed_callG {φ : Ob → Prop} {n : Nat} {f : List DV → (R → Prop) → Prop} {E : XK} {t : TA} {g : DGA} (hφ : φ O) (h : AG K O t g) : ED K O (tCall (spG K φ n f) [] E t) (calG n f g) := fun σ H ρ Q Qd S q k => by
 refine h σ H ρ _ _ S q fun vs H1 rs s1 is ⟨hn, q1⟩ => ?_
 rw [List.append_nil]
 exact ⟨O, rs, Qd, S.ok, hφ, s1.p S.p, hn, is, q1, fun r qr v H' s2 o2 => k v H' r (s1.trans s2) (o2.ahead S.ok S.p s1) qr⟩
theorem rep_startG {N : List Str} {H : Hp} {vs : List V} {rs : List DV} (ok : O.Ok) (p : O.P H) (h : Args K O H vs rs) : Rep K O H (fun _ _ => False) H (L2.start N vs) (dstart N rs) := by
 have hl := h.length
 refine ⟨ok, p, p, .refl _ _, fun _ _ _ z => z.elim, fun _ _ z => z.elim, fun i r e => ?_, ?_⟩
 · unfold dstart at e
   by_cases hi : i < rs.length
   · rw [List.getElem?_append_left (by simpa using hi), List.getElem?_map] at e
     cases q : rs[i]? with
     | none => rw [q] at e; cases e
     | some r' =>
       rw [q] at e
       have e' : r' = r := Option.some.inj (Option.some.inj e)
       subst e'
       obtain ⟨v, hv, hh⟩ := h.get q
       refine ⟨v, ?_, ?_⟩
       · unfold L2.start
         rw [List.getElem?_append_left (by rw [List.length_map, hl]; exact hi), List.getElem?_map, hv]
         rfl
       · rcases hh with ⟨d, rfl, hd⟩ | ⟨f, ds, rfl, a, xs, e1, nm, q1, z⟩ | ⟨rfl, hd⟩ | ⟨T, rfl, W, hw, z⟩
         · exact hd.weak fun a u => ⟨u, fun j z => z⟩
         · exact ⟨a, xs, e1, ⟨nm, fun _ z => z⟩, q1, z.weak fun a u => ⟨u, fun j z => z⟩⟩
         · exact hd
         · exact ⟨W, fun b w => ⟨⟨(hw b w).1, fun _ z => z⟩, (hw b w).2⟩, T.to (fun b u f q => ⟨⟨f, fun _ z => z⟩, q⟩) (fun b u w q => ⟨w, q⟩) (TupStay.refl _) z⟩
   · rw [List.getElem?_append_right (by simpa using hi), List.getElem?_replicate] at e
     split at e <;> cases e
 · unfold dstart L2.start
   rw [List.length_append, List.length_append, List.length_map, List.length_map, List.length_replicate, List.length_replicate, hl]
theorem run_G {N : List Str} {t : TS} {g : DS} {H : Hp} {vs : List V} {rs : List DV} {Q : VK} {Qr : R → Prop} (h : SD K O t g) (ok : O.Ok) (p : O.P H) (ia : Args K O H vs rs)
   (hg : g { nx := fun _ => Qr (.o .none), rt := Qr } (dstart N rs)) (hQ : ∀ r, Qr r → ∀ v H', Stp O H H' → Out K O H H' v r → Q v H') : t { nx := fun _ H' => Q .non H', rt := Q } (L2.start N vs) H :=
 h H _ _ H _ _ _ (rep_startG ok p ia) hg ⟨fun A' σ' H' ρ' r' _ q => hQ _ q .non H' r'.st Is.none, fun A' σ' H' ρ' r' _ q => q.elim, fun A' σ' H' ρ' r' _ q => q.elim, fun H' v r s o q => hQ r q v H' s o⟩
end
def AG3 {ι κ : Type} (K : PySem.W.Frag) (X : ι → Cx) (O : κ → Ob) (es : List Expr) (f : DGA) : Prop := ∃ t, (∀ i, PA (X i) es t) ∧ ∀ j, AG K (O j) t f
section
variable {ι κ : Type} {P : Program} {w : World} {K : PySem.W.Frag} {mg : Str → Option Value} {base : Heap} {k : Nat} {X : ι → Cx} {O : κ → Ob} {a : Expr} {es : List Expr} {fa : DE} {ga : DGA} {pos p : Pos}
theorem g_nil : AG3 K X O [] gNilA := ⟨tNil, fun i => pa_nil, fun j => ag_nil⟩
theorem g_thr (n : Nat) {x : Str} {px : Pos} (hs : AG3 K X O es ga) (hN : ∀ i, (X i).N[n]? = some x := by intro i; rfl) (hv : ∀ i, Vis (X i).env.scope x := by intro i; first | exact Or.inl rfl | exact Or.inr (Or.inl rfl) | exact Or.inr (Or.inr rfl)) (hd : (x == ("__debug__" : Str)) = false := by decide) (hcd : (x == ("__classdict__" : Str)) = false := by decide)
   (he : ∀ i, starEach (.Name x px :: es) (X i).env = (false, eval (.Name x px) (X i).env) :: starEach es (X i).env := by intro i; rfl) : AG3 K X O (.Name x px :: es) (gThrA n ga) := let ⟨_, p2, d2⟩ := hs; ⟨_, fun i => pa_cons (pe_var (hN i) (hv i) hd hcd) (p2 i) (he i), fun j => ag_thr (d2 j)⟩
theorem e_callG {k' n : Nat} {x : Str} {ps : List Str} {φ : Ob → Prop} {F : List DV → (R → Prop) → Prop} (C : Ctx3 P w K mg base k X) (D : Def3 P w K mg base k' x ps (spG K φ n F)) (hφ : ∀ j, φ (O j)) (ha : AG3 K X O (a :: es) ga) (hk : k' ≤ k := by decide) (hg : ∀ i, Gl (X i) x := by intro i; rfl)
   (hdb : (x == ("__debug__" : Str)) = false := by decide) (he : ∀ i, starEach (a :: es) (X i).env = (false, eval a (X i).env) :: starEach es (X i).env := by intro i; rfl) (hpl : ∀ i, (backTo pos (starEach es (X i).env)).any (·.1) = false := by intro i; rfl) : E3 K X O (.Call (.Name x p) (a :: es) [] pos) (calG n F ga) := by
 obtain ⟨f, fd, G, m, kp, bn⟩ := D.ex
 obtain ⟨t, q, d⟩ := ha
 refine ⟨tCall (spG K φ n F) [] E0 t, fun i => ?_, fun j => ed_callG (hφ j) (d j)⟩
 have G' : FnOk (X i).prog (X i).w (X i).K (X i).mg (X i).base CX0 k f fd ps (spG K φ n F) := by rw [C.hP, C.hw, C.hK, C.hmg, C.hb]; exact G.mono hk
 exact pe_call G' (C.room i) (hg i) (by rw [C.hmg]; exact m) (by rw [C.hK]; exact kp) (by rw [C.hK]; exact bn) .nil pass0 (q i) hdb (he i) (hpl i)
end
section
variable {P : Program} {w : World} {K : PySem.W.Frag} {mg : Str → Option Value} {base : Heap} {k n : Nat} {x : Str} {st : Stmt} {N ps : List Str} {φ : Ob → Prop} {F : List DV → (R → Prop) → Prop}
theorem mk_G (T : Top3 K mg x st) (S : FnScope N ps (defScope st)) (hb : ∀ (kV doc pm : Value) (an : Option Addr) (cdv ct : Value) (us : List Value), us.length = ps.length → bindArgs (PySem.W.fnOf x x (defArgs st) (defBody st) (defScope st) .none kV doc pm an cdv ct) ⟨us, []⟩ = pure (ps.zip us)) (hn : ps.length = n)
   (body : ∀ (f : Addr) (cdv : Value) (A : Around) (outer : List Env) (s : Shared) (H : Hp) (E : XK) (O : Ob), φ O → Ctx3 P w K mg base k (bodyX P w K mg base N x (defScope st) f cdv A outer s H E) →
     ∃ g, Ss3 K (bodyX P w K mg base N x (defScope st) f cdv A outer s H E) (fun _ : Unit => O) (defBody st) g ∧ ∀ rs Qr, rs.length = n → F rs Qr → g { nx := fun _ => Qr (.o .none), rt := Qr } (dstart N rs)) : Def3 P w K mg base (k + 1) x ps (spG K φ n F) := by
 obtain ⟨f, fd, Fu, m⟩ := T.ex
 refine ⟨f, fd, Fu.ok S (spG_len hn) (fun cdv A outer s H vs Q E hr h => ?_), m, Fu.kp, Fu.binds hb⟩
 obtain ⟨O, rs, Qr, ok, hφ, p, hl, is, q, kk⟩ := h
 obtain ⟨g, ⟨t, h1, h2⟩, h3⟩ := body f cdv A outer s H E O hφ (ctx_body hr)
 exact ⟨t, h1 (), run_G (h2 ()) ok p is (h3 rs Qr hl q) kk⟩
end
end L3
namespace L3
open PySem PySem.Spec PySem.Calls
open PyProof.Rows hiding St
open L2
abbrev XF := Option (List (Str × V))
def XAo (F : Addr → Prop) (H : Hp) (v : V) (C : Addr) : XF → Prop
 | some fs => ∃ a dx, v = .ref a ∧ F a ∧ F dx ∧ H a = some (XR a C dx) ∧ H dx = some (.xd fs)
 | none => ∃ a, v = .ref a ∧ F a ∧ H a = some (XN0 a C)
def XAll (F : Addr → Prop) (H : Hp) : List V → List (Addr × XF) → Prop
 | [], [] => True
 | v :: vs, c :: cs => XAo F H v c.1 c.2 ∧ XAll F H vs cs
 | _, _ => False
theorem XAo.to {F F' : Addr → Prop} {H H' : Hp} {v : V} {C : Addr} {f : XF} (hL : ∀ a u, F a → H a = some u → F' a ∧ H' a = some u) (h : XAo F H v C f) : XAo F' H' v C f := by
 cases f with
 | some fs => obtain ⟨a, dx, e, f1, f2, q1, q2⟩ := h; exact ⟨a, dx, e, (hL a _ f1 q1).1, (hL dx _ f2 q2).1, (hL a _ f1 q1).2, (hL dx _ f2 q2).2⟩
 | none => obtain ⟨a, e, f1, q1⟩ := h; exact ⟨a, e, (hL a _ f1 q1).1, (hL a _ f1 q1).2⟩
theorem XAll.to {F F' : Addr → Prop} {H H' : Hp} (hL : ∀ a u, F a → H a = some u → F' a ∧ H' a = some u) : ∀ {vs : List V} {cs : List (Addr × XF)}, XAll F H vs cs → XAll F' H' vs cs
 | [], [], _ => trivial
 | _ :: _, _ :: _, h => ⟨h.1.to hL, XAll.to hL h.2⟩
 | [], _ :: _, h => h.elim
 | _ :: _, [], h => h.elim
theorem XAll.get {F : Addr → Prop} {H : Hp} : ∀ {vs : List V} {cs : List (Addr × XF)} {j : Nat} {c : Addr × XF}, XAll F H vs cs → cs[j]? = some c → ∃ v, vs[j]? = some v ∧ XAo F H v c.1 c.2
 | _ :: _, _ :: _, 0, _, h, e => by cases e; exact ⟨_, rfl, h.1⟩
 | _ :: _, _ :: _, j + 1, _, h, e => by
   obtain ⟨v, h1, h2⟩ := XAll.get (j := j) h.2 (by simpa using e)
   exact ⟨v, by simpa using h1, h2⟩
 | [], [], _, _, _, e => by simp at e
 | [], _ :: _, _, _, h, _ => h.elim
 | _ :: _, [], _, _, h, _ => h.elim
theorem XAo.ins {F : Addr → Prop} {H : Hp} {v : V} {C : Addr} {f : XF} (h : XAo F H v C f) : ∃ a, v = .ref a ∧ InsH H a C := by
 cases f with
 | some fs => obtain ⟨a, dx, e, _, _, q1, q2⟩ := h; exact ⟨a, e, .inl ⟨dx, fs, q1, q2⟩⟩
 | none => obtain ⟨a, e, _, q1⟩ := h; exact ⟨a, e, .inr q1⟩
def OneT (C : Addr) (f : XF) : Thg := ⟨fun _ F _ H v => XAo F H v C f, fun hF _ _ h => h.to hF⟩
def XsT (l : List (Addr × XF)) : Thg := ⟨fun _ F _ H v => ∃ a xs, v = .ref a ∧ F a ∧ H a = some (.lst xs) ∧ XAll F H xs l, fun hF _ _ h => by
 obtain ⟨a, xs, e, f, q, z⟩ := h
 exact ⟨a, xs, e, (hF a _ f q).1, (hF a _ f q).2, z.to hF⟩⟩
section
variable {K : PySem.W.Frag} {O : Ob} {H₀ H H' : Hp} {A : Nat → Addr → Prop} {σ : St} {ρ : DSt}
theorem Rep.setThr {i : Nat} {v : V} {T : Thg} (r : Rep K O H₀ A H σ ρ) (h : T.R K (unO O A) (fun _ => False) H v) : Rep K O H₀ (fun j a => j ≠ i ∧ A j a) H (σ.set i (some v)) (ρ.set i (some (.thr T))) := by
 have un : ∀ a, unO O A a → unO O (fun j a => j ≠ i ∧ A j a) a := fun a u => ⟨u.1, fun j z => u.2 j z.2⟩
 have r0 := r.setIm (i := i) (v := .non) (d := .none) .none
 refine ⟨r0.ok, r0.p, r0.p0, r0.st, r0.dis, r0.own, fun j x e => ?_, by rw [List.length_set, List.length_set]; exact r.len⟩
 by_cases hj : i = j
 · subst hj
   have hi' : i < ρ.length := by
     rcases Nat.lt_or_ge i ρ.length with z | z
     · exact z
     · rw [List.getElem?_eq_none (by simpa using z)] at e; cases e
   rw [List.getElem?_set_self hi'] at e
   cases e
   exact ⟨v, List.getElem?_set_self (by have := r.len; omega), fun _ => False, fun a w => w.elim, T.to (fun a u f q => ⟨un a f, q⟩) (fun a u w q => ⟨w, q⟩) (TupStay.refl _) h⟩
 · have q := r0.at_ j x (by rw [List.getElem?_set_ne hj] at e ⊢; exact e)
   rw [List.getElem?_set_ne hj] at q ⊢
   exact q
theorem fresh_un (r : Rep K O H₀ A H σ ρ) {a : Addr} (n : H a = none) : unO O A a := ⟨fun m => (by obtain ⟨o, z⟩ := r.ok.here H a r.p m; rw [n] at z; cases z), fun j z => (by obtain ⟨o, e, _⟩ := (r.own j a z).2.1; rw [n] at e; cases e)⟩
def plD : V → Option PyData
 | .int i => some (.int i)
 | .str x => some (.str x)
 | _ => none
def fldE (K : PySem.W.Frag) (n j : Nat) (f : Str) : DE := fun ρ Q => ∃ l C fs y d, ρ[n]? = some (some (.thr (XsT l))) ∧ l[j]? = some (C, some fs) ∧ XGet K C ∧ PySem.W.findIn K (.ref C) f = some none ∧ fs.lookup f = some y ∧ plD y = some d ∧ Q (.o d)
theorem atI_nat {α : Type} {xs : List α} {j : Nat} {x : α} (h : xs[j]? = some x) : atI xs (j : Int) = some x := by
 obtain ⟨z, _⟩ := List.getElem?_eq_some_iff.mp h
 unfold atI ixN
 rw [if_pos (by omega), if_pos (by omega)]
 simpa using h
theorem ed_fldE {n j : Nat} {f : Str} : ED K O (tFldX K f (tOp (rIxL K) (tVar n) (tC (.int (j : Int))))) (fldE K n j f) := fun σ H ρ Q Qd S h k => by
 obtain ⟨l, C, fs, y, d, e, hl, g, no, lk, py, q⟩ := h
 obtain ⟨v, hv, W, _, a, xs, rfl, f1, q1, al⟩ := S.at_ n _ e
 obtain ⟨x, hx, z⟩ := al.get hl
 obtain ⟨b, dx, rfl, _, _, q2, q3⟩ := z
 refine ⟨_, hv, a, xs, j, _, rfl, rfl, .inl (.of q1), atI_nat hx, b, C, dx, fs, y, rfl, q2, q3, g, no, lk, ?_, ?_⟩
 · cases y <;> first | trivial | cases py
 · cases y with
   | int i => cases py; exact k _ H (.o (.int i)) (.refl _ _) (.int i) q
   | str i => cases py; exact k _ H (.o (.str i)) (.refl _ _) (.str i) q
   | _ => cases py
def isED (K : PySem.W.Frag) (n : Nat) (cv : Value) : DE := fun ρ Q => ∃ C f b, ρ[n]? = some (some (.thr (OneT C f))) ∧ XGet K C ∧ PySem.W.kitOne K (.ref C) cv = some b ∧ Q (.o (.bool b))
theorem ed_isE {n : Nat} {cv : Value} : ED K O (tIsE K cv (tVar n)) (isED K n cv) := fun σ H ρ Q Qd S h k => by
 obtain ⟨C, f, b, e, g, kt, q⟩ := h
 obtain ⟨v, hv, W, _, z⟩ := S.at_ n _ e
 obtain ⟨a, rfl, ih⟩ := XAo.ins z
 exact ⟨_, hv, a, C, b, rfl, ih, g, kt, k _ H (.o (.bool b)) (.refl _ _) (.bool b) q⟩
def madeL (ea : EA) (n : Int) (w : Str) : List (Addr × XF) := [(ea.nt, some [("at", .int n)]), (ea.nh, some [("word", .str w), ("at", .int n)]), (ea.ns, some [("at", .int n)]), (ea.tm, some [("most", .int n)]), (ea.np, some [("at", .int n)]), (ea.ng, some [("at", .int n)]), (ea.nr, none)]
def spMade (ea : EA) : Sp := fun vs H Q _ => ∃ (n : Int) (w : Str), vs = [.int n, .str w] ∧ ∀ v H', Same H H' → (∃ a xs, v = .ref a ∧ H a = none ∧ H' a = some (.lst xs) ∧ XAll (fun b => H b = none) H' xs (madeL ea n w)) → Q v H'
def mkS (ea : EA) (i : Nat) (g : DA) : DS := fun Dd ρ => g ρ fun ds => ∃ n w, ds = [.int n, .str w] ∧ Dd.nx (ρ.set i (some (.thr (XsT (madeL ea n w)))))
theorem sd_mkS {ea : EA} {i : Nat} {t : TA} {g : DA} (h : AD K O t g) : SD K O (tAsg (tCall (spMade ea) [] E0 t) (gName i)) (mkS ea i g) := fun H₀ A σ H ρ D Dd r q P => by
 refine h σ H ρ _ _ r.seen q fun vs H1 ds s1 is ⟨n, w, e, q1⟩ => ?_
 subst e
 have r1 := r.stp s1
 cases is with
 | cons i1 i2 =>
   cases i2 with
   | cons i3 i4 =>
     cases i4
     cases i1
     cases i3
     refine ⟨n, w, rfl, fun v H2 sm ⟨a, xs, ev, na, ha, al⟩ => ?_⟩
     have s2 : Stp O H1 H2 := .same r.ok sm
     have r2 := r1.stp s2
     refine P.nx _ _ H2 _ (r2.setThr (T := XsT (madeL ea n w)) ⟨a, xs, ev, fresh_un r1 na, ha, al.to fun b u f z => ⟨fresh_un r1 f, z⟩⟩) (.setIm (s1.trans s2)) q1
def forX (i m1 m2 k : Nat) (gb : DS) : DS := fun Dd ρ => ∃ l1 l2 j C1 f1 C2 f2, ρ[m1]? = some (some (.thr (XsT l1))) ∧ ρ[m2]? = some (some (.thr (XsT l2))) ∧ ρ[k]? = some (some (.im (.int (j : Nat)))) ∧ l1[j]? = some (C1, f1) ∧ l2[j]? = some (C2, f2) ∧
 gb { Dd with nx := fun ρ2 => gb { Dd with nx := Dd.nx, ct := Dd.nx, bk := Dd.nx } (ρ2.set i (some (.thr (OneT C2 f2)))), ct := fun ρ2 => gb { Dd with nx := Dd.nx, ct := Dd.nx, bk := Dd.nx } (ρ2.set i (some (.thr (OneT C2 f2)))), bk := Dd.nx } (ρ.set i (some (.thr (OneT C1 f1))))
theorem sd_forX {i m1 m2 k : Nat} {tb : TS} {gb : DS} (hb : SD K O tb gb) : SD K O (tFor (iTup K (tTup (tCons (tOp (rIxL K) (tVar m1) (tVar k)) (tCons (tOp (rIxL K) (tVar m2) (tVar k)) tNil)))) (gName i) tb) (forX i m1 m2 k gb) := fun H₀ A σ H ρ D Dd r q P => by
 obtain ⟨l1, l2, j, C1, f1, C2, f2, e1, e2, e3, g1, g2, q⟩ := q
 obtain ⟨v1, hv1, W1, _, a1, xs1, rfl, F1, q1, al1⟩ := r.at_ m1 _ e1
 obtain ⟨v2, hv2, W2, _, a2, xs2, rfl, F2, q2, al2⟩ := r.at_ m2 _ e2
 obtain ⟨v3, hv3, i3⟩ := r.at_ k _ e3
 cases (show Is K (unO O A) H v3 (.int (j : Nat)) from i3)
 obtain ⟨x1, hx1, z1⟩ := al1.get g1
 obtain ⟨x2, hx2, z2⟩ := al2.get g2
 refine ⟨_, hv1, _, hv3, a1, xs1, j, x1, rfl, rfl, .inl (.of q1), atI_nat hx1, _, hv2, _, hv3, a2, xs2, j, x2, rfl, rfl, .inl (.of q2), atI_nat hx2, by show 2 ≤ sizeLine; rw [sizeLine_eq]; omega, fun p hp => ⟨p, rfl, ⟨_, .of upd_same⟩, ?_⟩⟩
 have st := Stp.new r.ok hp (.tup [x1, x2])
 have r1 := r.stp st
 have fr1 : Frm O A H A (upd H p (.tup [x1, x2])) := .stp st
 have un1 : ∀ {x C f}, XAo (unO O A) H x C f → XAo (unO O A) (upd H p (.tup [x1, x2])) x C f := fun z => z.to fun b u f h => ⟨(fr1 b u h f).2, (fr1 b u h f).1⟩
 let go : Nat → DSt → Prop := fun n ρ2 => if n = 0 then ρ2 = ρ else if n = 1 then gb { Dd with nx := Dd.nx, ct := Dd.nx, bk := Dd.nx } (ρ2.set i (some (.thr (OneT C2 f2)))) else Dd.nx ρ2
 refine ⟨fun n m σ2 H2 => m = 2 - n ∧ n ≤ 2 ∧ ∃ A2 ρ2, Rep K O H₀ A2 H2 σ2 ρ2 ∧ Frm O A (upd H p (.tup [x1, x2])) A2 H2 ∧ go n ρ2, ⟨2, rfl, by omega, A, ρ, r1, .refl, rfl⟩, ?_⟩
 rintro n m σ2 H2 ⟨rfl, hn, A2, ρ2, r2, fr2, go2⟩
 have ts : TupStay (upd H p (.tup [x1, x2])) H2 := r1.tupStay fr2
 have sq : SqT K H2 p [x1, x2] := SqT.of (ts p _ ⟨_, .inl rfl⟩ upd_same)
 have un2 : ∀ {x C f}, XAo (unO O A) H x C f → XAo (unO O A2) H2 x C f := fun z => (un1 z).to fun b u f h => ⟨(fr2 b u h f).2, (fr2 b u h f).1⟩
 have yl : ∀ {n : Nat} {x y : V} {H' : Hp}, ([x1, x2] : List V)[n]? = some y → (Itt K p).yld n H2 x H' → H' = H2 ∧ x = y := fun e ⟨h1, h2⟩ => ⟨h1, Option.some.inj ((h2 _ sq).symm.trans e)⟩
 match n, hn with
 | 0, _ =>
   right
   have e : ρ2 = ρ := go2
   subst e
   refine ⟨⟨_, x1, sq, rfl⟩, fun σ' H' => ∃ A' ρ', Rep K O H₀ A' H' σ' ρ' ∧ Frm O A (upd H p (.tup [x1, x2])) A' H' ∧ go 1 ρ', fun σ' H' ⟨A', ρ', b1, b2, b3⟩ => ⟨1, by omega, rfl, by omega, A', ρ', b1, b2, b3⟩, fun x H' y => ?_⟩
   obtain ⟨rfl, rfl⟩ := yl (n := 0) (y := x1) rfl y
   have f3 : Frm O A2 H' (fun j a => j ≠ i ∧ A2 j a) H' := .setIm (.refl _ _)
   refine hb H₀ _ _ H' _ _ _ (r2.setThr (i := i) (T := OneT C1 f1) (un2 z1)) q ⟨fun A' σ' H' ρ' r' f' q' => ⟨A', ρ', r', (fr2.trans f3).trans f', q'⟩, fun A' σ' H' ρ' r' f' q' => P.nx A' σ' H' ρ' r' ((fr1.trans (fr2.trans f3)).trans f') q', fun A' σ' H' ρ' r' f' q' => ⟨A', ρ', r', (fr2.trans f3).trans f', q'⟩, P.rt⟩
 | 1, _ =>
   right
   refine ⟨⟨_, x2, sq, rfl⟩, fun σ' H' => ∃ A' ρ', Rep K O H₀ A' H' σ' ρ' ∧ Frm O A (upd H p (.tup [x1, x2])) A' H' ∧ go 2 ρ', fun σ' H' ⟨A', ρ', b1, b2, b3⟩ => ⟨0, by omega, rfl, by omega, A', ρ', b1, b2, b3⟩, fun x H' y => ?_⟩
   obtain ⟨rfl, rfl⟩ := yl (n := 1) (y := x2) rfl y
   have f3 : Frm O A2 H' (fun j a => j ≠ i ∧ A2 j a) H' := .setIm (.refl _ _)
   refine hb H₀ _ _ H' _ _ _ (r2.setThr (i := i) (T := OneT C2 f2) (un2 z2)) go2 ⟨fun A' σ' H' ρ' r' f' q' => ⟨A', ρ', r', (fr2.trans f3).trans f', q'⟩, fun A' σ' H' ρ' r' f' q' => P.nx A' σ' H' ρ' r' ((fr1.trans (fr2.trans f3)).trans f') q', fun A' σ' H' ρ' r' f' q' => ⟨A', ρ', r', (fr2.trans f3).trans f', q'⟩, P.rt⟩
 | 2, _ =>
   left
   exact ⟨⟨_, sq, Nat.le_refl 2⟩, P.nx A2 σ2 H2 ρ2 r2 (fr1.trans fr2) go2⟩
end
end L3
namespace L3
open PySem PySem.Spec PySem.Calls
open PyProof.Rows hiding St
open L2
section
variable {ι κ : Type} {P : Program} {w : World} {K : PySem.W.Frag} {mg : Str → Option Value} {base : Heap} {k : Nat} {X : ι → Cx} {O : κ → Ob} {a b c : Expr} {fa : DE} {ga : DA} {pos p p2 : Pos} {es : List Expr}
theorem e_fldE (m j : Nat) {y f : Str} {py p1 p2 : Pos} {kk} (C : Ctx3 P w K mg base k X) (hN2 : ∀ i, (X i).N[m]? = some y := by intro i; rfl) (hv : ∀ i, Vis (X i).env.scope y := by intro i; first | exact Or.inl rfl | exact Or.inr (Or.inl rfl) | exact Or.inr (Or.inr rfl)) (hd : (y == ("__debug__" : Str)) = false := by decide) (hcd : (y == ("__classdict__" : Str)) = false := by decide)
   (hb : ∀ i, attributeBase (.Subscript (.Name y py) (.Constant (.int (j : Int)) kk p1) p2) f (X i).env (eval (.Subscript (.Name y py) (.Constant (.int (j : Int)) kk p1) p2) (X i).env) = eval (.Subscript (.Name y py) (.Constant (.int (j : Int)) kk p1) p2) (X i).env := by intro i; rfl) : E3 K X O (.Attribute (.Subscript (.Name y py) (.Constant (.int (j : Int)) kk p1) p2) f pos) (fldE K m j f) :=
 ⟨_, fun i => by
   have := pe_fldX (X := X i) (pos := pos) (f := f) (pe_ix (pos := p2) ix_list (pe_var (pos := py) (hN2 i) (hv i) hd hcd) (pe_int (i := (j : Int)) (j := kk) (pos := p1)) (fun _ _ => rfl)) (hb i)
   rw [C.hK] at this
   exact this, fun j => ed_fldE⟩
theorem e_isEo (m : Nat) {x y : Str} {c : Addr} {py p1 p2 : Pos} (C : Ctx3 P w K mg base k X) (B : Blt mg) (hm : mg x = some (.ref c)) (gi : ∀ i, Gl (X i) "isinstance" := by intro i; rfl) (gx : ∀ i, Gl (X i) x := by intro i; rfl)
   (hN2 : ∀ i, (X i).N[m]? = some y := by intro i; rfl) (hv : ∀ i, Vis (X i).env.scope y := by intro i; first | exact Or.inl rfl | exact Or.inr (Or.inl rfl) | exact Or.inr (Or.inr rfl)) (hd : (y == ("__debug__" : Str)) = false := by decide) (hcd : (y == ("__classdict__" : Str)) = false := by decide) (hd2 : (x == ("__debug__" : Str)) = false := by decide) :
   E3 K X O (.Call (.Name "isinstance" p1) [.Name y py, .Name x p2] [] pos) (isED K m (.ref c)) :=
 ⟨_, fun i => by
   have := pe_isE (X := X i) (p1 := p1) (p2 := p2) (p3 := pos) (x := x) (cv := .ref c) (gi i) (by rw [C.hmg]; exact B.isinstance) (ldc_own (gx i) (by rw [C.hmg]; exact hm) hd2) (pe_var (pos := py) (hN2 i) (hv i) hd hcd)
   rw [C.hK] at this
   exact this, fun j => ed_isE⟩
theorem e_isEb (m : Nat) {x y : Str} {cv : Value} {py p1 p2 : Pos} (C : Ctx3 P w K mg base k X) (B : Blt mg) (hm : mg x = none) (hb : bootBuiltins x = some cv := by decide +kernel) (gi : ∀ i, Gl (X i) "isinstance" := by intro i; rfl) (gx : ∀ i, Gl (X i) x := by intro i; rfl)
   (hN2 : ∀ i, (X i).N[m]? = some y := by intro i; rfl) (hv : ∀ i, Vis (X i).env.scope y := by intro i; first | exact Or.inl rfl | exact Or.inr (Or.inl rfl) | exact Or.inr (Or.inr rfl)) (hd : (y == ("__debug__" : Str)) = false := by decide) (hcd : (y == ("__classdict__" : Str)) = false := by decide) (hn : x ≠ "__name__" := by decide) (hd2 : (x == ("__debug__" : Str)) = false := by decide) :
   E3 K X O (.Call (.Name "isinstance" p1) [.Name y py, .Name x p2] [] pos) (isED K m cv) :=
 ⟨_, fun i => by
   have := pe_isE (X := X i) (p1 := p1) (p2 := p2) (p3 := pos) (x := x) (cv := cv) (gi i) (by rw [C.hmg]; exact B.isinstance) (ldc_blt (gx i) (by rw [C.hmg]; exact hm) hb hn hd2) (pe_var (pos := py) (hN2 i) (hv i) hd hcd)
   rw [C.hK] at this
   exact this, fun j => ed_isE⟩
theorem s_mkE (n : Nat) {k' : Nat} {x y : Str} {px pc : Pos} {ps : List Str} {ea : EA} (C : Ctx3 P w K mg base k X) (D : Def3 P w K mg base k' y ps (spMade ea)) (ha : A3 K X O (a :: es) ga) (hk : k' ≤ k := by decide) (hg : ∀ i, Gl (X i) y := by intro i; rfl) (hN : ∀ i, (X i).N.Nodup := by intro i; exact of_decide_eq_true (by kernel_rfl)) (hi : ∀ i, (X i).N[n]? = some x := by intro i; rfl) (hx : ∀ i, Loc (X i).env.scope x := by intro i; first | exact Or.inl rfl | exact Or.inr rfl)
   (hdb : (y == ("__debug__" : Str)) = false := by decide) (he : ∀ i, starEach (a :: es) (X i).env = (false, eval a (X i).env) :: starEach es (X i).env := by intro i; rfl) (hpl : ∀ i, (backTo pc (starEach es (X i).env)).any (·.1) = false := by intro i; rfl)
   (hs : ∀ i, swapsWith (.Call (.Name y p) (a :: es) [] pc) (some (.Name x px)) pos.line (X i).env = pure false := by intro i; rfl) (hf : ∀ i, (X i).fn x = true ∨ (X i).env.scope.names.lookup x = some .local := by intro i; first | exact .inl rfl | exact .inr rfl) :
   S3 K X O (.Assign [.Name x px] (.Call (.Name y p) (a :: es) [] pc) pos) (mkS ea n ga) := by
 obtain ⟨f, fd, G, m, kp, bn⟩ := D.ex
 obtain ⟨t, q, d⟩ := ha
 refine ⟨_, fun i => ps_set (hN i) (hi i) (hx i) ?_ (hs i) (hf i), fun j => sd_mkS (d j)⟩
 have G' : FnOk (X i).prog (X i).w (X i).K (X i).mg (X i).base CX0 k f fd ps (spMade ea) := by rw [C.hP, C.hw, C.hK, C.hmg, C.hb]; exact G.mono hk
 exact pe_call G' (C.room i) (hg i) (by rw [C.hmg]; exact m) (by rw [C.hK]; exact kp) (by rw [C.hK]; exact bn) .nil pass0 (q i) hdb (he i) (hpl i)
theorem s_forX (n m1 m2 q : Nat) {x y z v : Str} {px py pz p1 p2 p3 p4 p5 : Pos} {x1} {body : List Stmt} {g1 : DS} (C : Ctx3 P w K mg base k X) (hb : Ss3 K X O body g1) (hN : ∀ i, (X i).N.Nodup := by intro i; exact of_decide_eq_true (by kernel_rfl)) (hi : ∀ i, (X i).N[n]? = some x := by intro i; rfl) (hx : ∀ i, Loc (X i).env.scope x := by intro i; first | exact Or.inl rfl | exact Or.inr rfl)
   (h1 : ∀ i, (X i).N[m1]? = some y := by intro i; rfl) (v1 : ∀ i, Vis (X i).env.scope y := by intro i; first | exact Or.inl rfl | exact Or.inr (Or.inl rfl) | exact Or.inr (Or.inr rfl)) (h2 : ∀ i, (X i).N[m2]? = some z := by intro i; rfl) (v2 : ∀ i, Vis (X i).env.scope z := by intro i; first | exact Or.inl rfl | exact Or.inr (Or.inl rfl) | exact Or.inr (Or.inr rfl)) (h3 : ∀ i, (X i).N[q]? = some v := by intro i; rfl) (v3 : ∀ i, Vis (X i).env.scope v := by intro i; first | exact Or.inl rfl | exact Or.inr (Or.inl rfl) | exact Or.inr (Or.inr rfl))
   (d1 : (y == ("__debug__" : Str)) = false := by decide) (d2 : (z == ("__debug__" : Str)) = false := by decide) (d3 : (v == ("__debug__" : Str)) = false := by decide) (c1 : (y == ("__classdict__" : Str)) = false := by decide) (c2 : (z == ("__classdict__" : Str)) = false := by decide) (c3 : (v == ("__classdict__" : Str)) = false := by decide)
   (hf : ∀ i, (X i).fn x = true ∨ (X i).env.scope.names.lookup x = some .local := by intro i; first | exact .inl rfl | exact .inr rfl)
   (hs : ∀ i t, foldedSetIterable (.Tuple [.Subscript (.Name y py) (.Name v p1) p2, .Subscript (.Name z pz) (.Name v p3) p4] x1 p5) (X i).env t = pure t := by intro _ _; rfl)
   (st : ∀ i, starEach [.Subscript (.Name y py) (.Name v p1) p2, .Subscript (.Name z pz) (.Name v p3) p4] (X i).env = (false, eval (.Subscript (.Name y py) (.Name v p1) p2) (X i).env) :: starEach [.Subscript (.Name z pz) (.Name v p3) p4] (X i).env := by intro i; rfl) (st2 : ∀ i, starEach [.Subscript (.Name z pz) (.Name v p3) p4] (X i).env = (false, eval (.Subscript (.Name z pz) (.Name v p3) p4) (X i).env) :: starEach [] (X i).env := by intro i; rfl) :
   S3 K X O (.For (.Name x px) (.Tuple [.Subscript (.Name y py) (.Name v p1) p2, .Subscript (.Name z pz) (.Name v p3) p4] x1 p5) body [] pos) (forX n m1 m2 q g1) := by
 obtain ⟨tb, p3', d3'⟩ := hb
 refine ⟨_, fun i => ?_, fun j => sd_forX (d3' j)⟩
 have := pi_tup (X := X i) (tg := .Name x px) (pe_tup (pos := p5) (x1 := x1) (pa_cons (pe_ix (pos := p2) ix_list (pe_var (pos := py) (h1 i) (v1 i) d1 c1) (pe_var (pos := p1) (h3 i) (v3 i) d3 c3) (fun _ _ => rfl)) (pa_cons (pe_ix (pos := p4) ix_list (pe_var (pos := pz) (h2 i) (v2 i) d2 c2) (pe_var (pos := p3) (h3 i) (v3 i) d3 c3) (fun _ _ => rfl)) pa_nil (st2 i)) (st i)))
 rw [C.hK] at this
 exact ps_for (passes_never (C.xe i)) (C.calm i) this (pg_name (hN i) (hi i) (hx i) (hf i)) (p3' i) (hs i)
end
section
variable {σ : St}
def Exo (σ : St) (te : TE) (c : Addr × XF) : Prop := ∀ (H : Hp) (Q : VK), (∀ v H', Same H H' → XAo (fun b => H b = none) H' v c.1 c.2 → Q v H') → te σ H Q
def Exs (σ : St) (t : TA) (l : List (Addr × XF)) : Prop := ∀ (H : Hp) (Q : List V → Hp → Prop), (∀ vs H', Same H H' → vs.length = l.length → XAll (fun b => H b = none) H' vs l → Q vs H') → t σ H Q
theorem exs_nil : Exs σ tNil [] := fun H Q k => k [] H (.refl _) rfl trivial
theorem exs_cons {te : TE} {t : TA} {c : Addr × XF} {l : List (Addr × XF)} (h : Exo σ te c) (h' : Exs σ t l) : Exs σ (tCons te t) (c :: l) := fun H Q k => by
 refine h H _ fun v H1 s1 z1 => h' H1 _ fun vs H2 s2 e2 z2 => k (v :: vs) H2 (s1.trans s2) (by simp [e2]) ⟨z1.to fun b u f h => ⟨f, s2 b u h⟩, z2.to fun b u f h => ⟨?_, h⟩⟩
 show H b = none
 cases e : H b with
 | none => rfl
 | some o => rw [s1 b o e] at f; cases f
theorem same2 {H : Hp} {x d : Addr} {o u : HO} (hx : H x = none) (hd : H d = none) (ne : d ≠ x) : Same H (upd (upd H d o) x u) := fun b q e => by
 rw [upd_ne (ne_of_none e hx), upd_ne (ne_of_none e hd)]; exact e
theorem exo_1 {C : Addr} {fl : Str} {i : Nat} {y : V} (h : σ[i]? = some (some y)) : Exo σ (tMkX C [fl] (tCons (tVar i) tNil)) (C, some [(fl, y)]) := fun H Q k =>
 ⟨y, h, rfl, fun x d hx hd ne => k _ _ (same2 hx hd ne) ⟨x, d, rfl, hx, hd, upd_same, by rw [upd_ne ne, upd_same]; rfl⟩⟩
theorem exo_2 {C : Addr} {fl fm : Str} {i j : Nat} {y z : V} (h : σ[i]? = some (some y)) (h' : σ[j]? = some (some z)) : Exo σ (tMkX C [fl, fm] (tCons (tVar i) (tCons (tVar j) tNil))) (C, some [(fl, y), (fm, z)]) := fun H Q k =>
 ⟨y, h, z, h', rfl, fun x d hx hd ne => k _ _ (same2 hx hd ne) ⟨x, d, rfl, hx, hd, upd_same, by rw [upd_ne ne, upd_same]; rfl⟩⟩
theorem exo_0 {C : Addr} : Exo σ (tMk0 C) (C, none) := fun H Q k x hx => k _ _ (same_new hx _) ⟨x, rfl, hx, upd_same⟩
theorem exs_lst {t : TA} {l : List (Addr × XF)} {H : Hp} {Q : VK} (h : Exs σ t l) (hl : l.length ≤ 1000) (k : ∀ v H', Same H H' → (∃ a xs, v = .ref a ∧ H a = none ∧ H' a = some (.lst xs) ∧ XAll (fun b => H b = none) H' xs l) → Q v H') : tLst t σ H Q := by
 refine h H _ fun vs H1 s1 e1 z1 => ⟨by rw [e1, sizeLine_eq]; omega, fun p hp => k _ _ (s1.trans (same_new hp _)) ⟨p, vs, rfl, ?_, upd_same, z1.to fun b u f h => ⟨f, same_new hp _ b u h⟩⟩⟩
 cases e : H p with
 | none => rfl
 | some o => rw [s1 p o e] at hp; cases hp
end
theorem spMade_len {ea : EA} {ps : List Str} (h : ps.length = 2) : ∀ vs H Q E, spMade ea vs H Q E → vs.length = ps.length := fun vs H Q E ⟨n, w, e, _⟩ => by rw [e, h]; rfl
structure Raise0 (K : PySem.W.Frag) (LE C : Addr) (os : List Addr) : Prop where
 get : XGet K C
 lost : PySem.W.mroIn K C (.ref LE) = some true
 val : PySem.W.kitOne K (.ref C) (.type "ValueError") = some true
 oth : ∀ D ∈ os, PySem.W.kitOne K (.ref C) (.ref D) = some false
 make : XMk0 K C
abbrev RNoRow (K : PySem.W.Frag) (ea : EA) : Prop := Raise0 K ea.le ea.nr [ea.ng, ea.nh, ea.np, ea.ns, ea.nt, ea.tm]
section
variable {P : Program} {w : World} {K : PySem.W.Frag} {mg : Str → Option Value} {base : Heap} {C D LE f : Addr} {os : List Addr} {ea : EA}
theorem raise0_mk {N : Addr} {nm q : Str} {bs : List Value} {sn : List Str} {sub : List Value} {ab : Bool} {col : Option Bool} {dd ddL odN : Option Addr} {k0 k1 k2 k3 k5 : Option Value} {c0 ocN : Value} {cdL : ClassData} {slL oslN : Array (Option Value)} {es : Array DictEntry} {ep : Nat}
   (h1 : PySem.W.findIn K (.ref C) "__getattribute__" = some (some (.builtin "BaseException.__getattribute__"))) (h2 : PySem.W.findIn K (.ref C) "__getattr__" = some none) (h3 : PySem.W.mroIn K C (.type "BaseException") = some true) (h4 : PySem.W.mroIn K C (.type "object") = some true)
   (h5 : PySem.W.hasDictIn K C = true) (h6 : PySem.W.findIn K (.ref C) "__class__" = some (some (.builtin "object.__class__"))) (h7 : PySem.W.specialIn K (.builtin "object.__class__") "__get__" = some (some (.builtin "getset_descriptor.__get__"))) (h8 : PySem.W.takesIn K (.builtin "object.__class__") = some true)
   (h9 : PySem.W.mroIn K C (.ref LE) = some true) (h10 : PySem.W.mroIn K C (.type "ValueError") = some true)
   (h12 : K.lookup C = some (excClassObj nm q C N bs (.ref LE :: bmV) true sn sub ab col dd k0 k1 k2 k3 k5 "ValueError.__new__"))
   (h13 : K.lookup LE = some ⟨c0, ddL, .cls cdL, slL⟩) (h14 : K.lookup cdL.ns = some ⟨ocN, odN, .dict es ep, oslN⟩) (h15 : StrKeys es) (h16 : nsFind es "__init__" = none)
   (h17 : PySem.W.findIn K (.ref C) "__init__" = some (some (.builtin "ValueError.__init__"))) (h19 : PySem.W.keepIn K (.ref C) = true)
   (h21 : ∀ D ∈ os, PySem.W.kitOne K (.ref C) (.ref D) = some false) : Raise0 K LE C os :=
 ⟨⟨h1, h2, h3, h4, h5, h6, h7, h8⟩, h9, kit_val h10, h21, ⟨⟨nm, q, N, bs, _, bmV, sn, sub, ab, col, dd, k0, k1, k2, k3, k5, "ValueError", "ValueError.__new__", "ValueError.__init__", h12, fun h x => ownTail_of x h13 h14 h15 h16 .base, h17, PySem.F.excBase_ValueError⟩, h19⟩⟩
theorem kit_le (c : CatchC K LE) (h : PySem.W.mroIn K C (.ref LE) = some true) : PySem.W.kitOne K (.ref C) (.ref LE) = some true := by
 by_cases e : C = LE
 · rw [e]; exact kit_self
 · obtain ⟨oc, od, cd, sl, hl⟩ := c.cls
   exact kit_ref (by simpa using e) (cd := cd) (by unfold PySem.W.clsIn; rw [hl]) c.ty h
def cl7 (ea : EA) : List Addr := [ea.nt, ea.nh, ea.ns, ea.tm, ea.np, ea.ng, ea.nr]
structure All7 (K : PySem.W.Frag) (ea : EA) : Prop where
 get : ∀ (j : Nat) c, (cl7 ea)[j]? = some c → XGet K c
 lost : ∀ (j : Nat) c, (cl7 ea)[j]? = some c → PySem.W.kitOne K (.ref c) (.ref ea.le) = some true
 val : ∀ (j : Nat) c, (cl7 ea)[j]? = some c → PySem.W.kitOne K (.ref c) (.type "ValueError") = some true
 kit : ∀ (i j : Nat) c d, (cl7 ea)[i]? = some c → (cl7 ea)[j]? = some d → PySem.W.kitOne K (.ref c) (.ref d) = some (decide (i = j))
theorem all7 (EC : ErrC K mg ea) (r1 : RNoText K ea) (r2 : RNoHouse K ea) (r3 : RNoStep K ea) (r4 : RTooMany K ea) (r5 : RNoPaper K ea) (r6 : RNoGrammar K ea) (r7 : RNoRow K ea) : All7 K ea := by
 refine ⟨fun j c h => ?_, fun j c h => ?_, fun j c h => ?_, fun i j c d h h' => ?_⟩
 · rcases j with _ | _ | _ | _ | _ | _ | _ | j <;> cases h <;> first | exact r1.get | exact r2.get | exact r3.get | exact r4.get | exact r5.get | exact r6.get | exact r7.get
 · refine kit_le EC.cc ?_
   rcases j with _ | _ | _ | _ | _ | _ | _ | j <;> cases h <;> first | exact r1.lost | exact r2.lost | exact r3.lost | exact r4.lost | exact r5.lost | exact r6.lost | exact r7.lost
 · rcases j with _ | _ | _ | _ | _ | _ | _ | j <;> cases h <;> first | exact r1.val | exact r2.val | exact r3.val | exact r4.val | exact r5.val | exact r6.val | exact r7.val
 · rcases i with _ | _ | _ | _ | _ | _ | _ | i <;> cases h <;> rcases j with _ | _ | _ | _ | _ | _ | _ | j <;> cases h' <;> first | exact kit_self | exact r1.oth _ (by simp) | exact r2.oth _ (by simp) | exact r3.oth _ (by simp) | exact r4.oth _ (by simp) | exact r5.oth _ (by simp) | exact r6.oth _ (by simp) | exact r7.oth _ (by simp)
theorem made_at {n : Int} {w : Str} {j : Nat} (h : j < 7) : ∃ C f, (madeL ea n w)[j]? = some (C, f) ∧ (cl7 ea)[j]? = some C := by
 rcases j with _ | _ | _ | _ | _ | _ | _ | j
 all_goals first | exact ⟨_, _, rfl, rfl⟩ | omega
def sortsF (ea : EA) : List DV → (R → Prop) → Prop := fun rs Q => ∃ (j : Nat) (C : Addr) (f : XF), rs = [.thr (OneT C f)] ∧ (cl7 ea)[j]? = some C ∧ Q (.n [.bool (decide (j = 0)), .bool (decide (j = 1)), .bool (decide (j = 2)), .bool (decide (j = 3)), .bool (decide (j = 4)), .bool (decide (j = 5)), .bool (decide (j = 6))])
def fieldsF (ea : EA) : List DV → (R → Prop) → Prop := fun rs Q => ∃ n w, rs = [.thr (XsT (madeL ea n w))] ∧ Q (.n [.int n, .str w, .int n, .int n, .int n, .int n, .int n])
end
end L3
namespace L3
open PySem PySem.Spec
open PyProof.Rows hiding St
open L2
mutual
def solL : PyData → Bool
 | .none => true
 | .int _ => true
 | .str _ => true
 | .tuple ds => solLs ds
 | .list ds => solLs ds
 | _ => false
def solLs : List PyData → Bool
 | [] => true
 | d :: ds => solL d && solLs ds
end
end L3
namespace L3
open PySem PySem.Spec
open PyProof.Rows hiding St
open L2
theorem eqI {i j : Int} : eqF false (.int i) (.int j) = some (.o (.bool (decide (i = j)))) := by rw [eqF_int, if_neg Bool.false_ne_true]
theorem dr {m : Int} {P : Int → Prop} (h0 : 0 < m) (h1 : m < 1073741824) (q : ∀ k : Nat, (k : Int) < m → P (k : Int)) : 0 < m ∧ m < 1073741824 ∧ ∀ k : Int, 0 ≤ k → k < m → P k :=
 ⟨h0, h1, fun k k0 k1 => by obtain ⟨n, rfl⟩ := Int.eq_ofNat_of_zero_le k0; exact q n k1⟩
end L3
namespace L3
open PySem PySem.Spec
open PyProof.Rows hiding St
open L2
theorem nice_int9 {i : Int} (h0 : -1 ≤ i) (h1 : i < 1000000000000) : Nice 0 0 (.int i) := by
 rcases (show i < 0 ∨ 0 ≤ i by omega) with z | z
 · obtain rfl : i = -1 := by omega
   exact ⟨rfl, by decide +kernel, by decide +kernel, Nat.le_refl _, Nat.le_refl _, rfl⟩
 · obtain ⟨n, rfl⟩ := Int.eq_ofNat_of_zero_le z
   refine ⟨rfl, ?_, ?_, Nat.le_refl _, Nat.le_refl _, rfl⟩
   · rw [PyData.showable, Int.natAbs_natCast]
     have : n < 2 ^ 40 := by omega
     have l : n.log2 < 40 := by
       rcases Nat.eq_zero_or_pos n with e | e
       · subst e; decide
       · exact (Nat.log2_lt (by omega)).mpr this
     exact decide_eq_true (by omega)
   · rw [PyData.leavesShort, PyData.shown_int]
     refine decide_eq_true ?_
     show (Str.ofString (toString ((n : Nat) : Int))).cps.size ≤ 13
     have e := PySem.W.KIN.signs_num n
     have e2 : (Str.ofString (toString ((n : Nat) : Int))).cps.size = (Nat.toDigits 10 n).length := by
       rw [← Array.length_toList, e, List.length_map]
     rw [e2]
     exact (Nat.length_toDigits_le_iff (by decide) (by decide)).mpr (by omega)
def fldL (n : Int) (w : Str) : List PyData := [.int n, .str w, .int n, .int n, .int n, .int n, .int n]
theorem nice_fld {n : Int} {w : Str} (h0 : -1 ≤ n) (h1 : n < 1000000000000) (hw : PyData.strOk w = true) (hl : w.length ≤ 10) : Nice 1 17 (.tuple (fldL n w)) := by
 have a := nice_int9 h0 h1
 exact nice_cons a (nice_cons (nice_str hw hl) (nice_cons a (nice_cons a (nice_cons a (nice_cons a (nice_cons a nice_nil))))))
theorem repr_fld {n : Int} {w : Str} (h0 : -1 ≤ n) (h1 : n < 1000000000000) (hw : PyData.strOk w = true) (hl : w.length ≤ 10) : ∃ x, reprF [.list (fldL n w)] = some (.o (.str x)) ∧ PyData.strOk x = true := repr_list (nice_fld h0 h1 hw hl)
def dueL (j : Nat) : List PyData := [.bool (decide (j = 0)), .bool (decide (j = 1)), .bool (decide (j = 2)), .bool (decide (j = 3)), .bool (decide (j = 4)), .bool (decide (j = 5)), .bool (decide (j = 6))]
theorem due_eq {j : Nat} (h : j < 7) : eqF true (.list (dueL j)) (.list (dueL j)) = some (.o (.bool false)) := by
 rcases j with _ | _ | _ | _ | _ | _ | _ | j
 all_goals first | rfl | omega
theorem wrd_at {k : Nat} (h : (k : Int) < 6) : ∃ x : Str, idxF (.list [.str "letters", .str "lines", .str "flags", .str "hands", .str "rooms", .str "rules"]) (.int (k : Nat)) = some (.o (.str x)) ∧ PyData.strOk x = true ∧ x.length ≤ 10 := by
 rcases k with _ | _ | _ | _ | _ | _ | k
 all_goals first | omega | exact ⟨_, rfl, by decide +kernel, by decide +kernel⟩
theorem two_at {k : Nat} (h : (k : Int) < 2) {x y : PyData} : ∃ z, idxF (.list [x, y]) (.int (k : Nat)) = some (.o z) ∧ (z = x ∨ z = y) := by
 have : k = 0 ∨ k = 1 := by omega
 rcases this with rfl | rfl
 · exact ⟨x, rfl, .inl rfl⟩
 · exact ⟨y, rfl, .inr rfl⟩
end L3
namespace L3
open PySem PySem.Spec
open PyProof.Rows hiding St
open L2
theorem due_map {j : Nat} (h : j < 7) : ((List.range 7).map fun i : Nat => PyData.bool (decide ((0 : Int) + (i : Nat) = (j : Nat)))) = dueL j := by
 rcases j with _ | _ | _ | _ | _ | _ | _ | j
 all_goals first | rfl | omega
end L3
namespace L10
open PySem PySem.Spec
open PyProof.Rows hiding St
open L2 L3
local macro_rules | `(tactic| infer_instance) => `(tactic| first | refine ⟨_, _, rfl, rfl, ?_⟩ | refine ⟨_, eqI, ?_⟩ | refine ⟨_, neI, ?_⟩ | refine ⟨_, rfl, ?_⟩ | refine ⟨rfl, ?_⟩ | refine ⟨(by show _ ≤ sizeLine; rw [sizeLine_eq]; exact Nat.le_of_ble_eq_true rfl), ?_⟩ | refine ⟨_, _, rfl, ?_⟩ | refine ⟨_, _, _, rfl, ?_⟩ | refine iteT ?_ | refine iteF ?_ | refine Or.inl ⟨rfl, ?_⟩ | refine Or.inr ⟨rfl, ?_⟩ | refine ⟨_, eqS_t (by decide +kernel), ?_⟩ | refine ⟨_, eqS_f (by decide +kernel) (by decide +kernel), ?_⟩ | refine ⟨_, inS_t (by decide +kernel), ?_⟩ | refine ⟨_, inS_f (by decide +kernel), ?_⟩)
section
variable {P : Program} {w : World} {K : PySem.W.Frag} {mg : Str → Option Value} {base : Heap} {k : Nat}
abbrev sMadeL : Stmt := top 12
theorem scMadeL : FnScope ["_law_n", "_law_word"] ["_law_n", "_law_word"] (defScope sMadeL) := ⟨rfl, rfl, rfl, by decide +kernel, rfl, by decide +kernel, by decide +kernel⟩
theorem d_law_made (B : Blt mg) {ea : EA} (EC : ErrC K mg ea) (rNoText : RNoText K ea) (rNoHouse : RNoHouse K ea) (rNoStep : RNoStep K ea) (rTooMany : RTooMany K ea) (rNoPaper : RNoPaper K ea) (rNoGrammar : RNoGrammar K ea) (rNoRow : RNoRow K ea) (T : Top3 K mg "_law_made" sMadeL) : Def3 P w K mg base 3 "_law_made" ["_law_n", "_law_word"] (spMade ea) := by
 obtain ⟨f, fd, Fu, m⟩ := T.ex
 refine ⟨f, fd, Fu.ok scMadeL (spMade_len rfl) (fun cdv A outer s H vs Q E hr h => ?_), m, Fu.kp, Fu.binds (fun _ _ _ _ _ _ us hl => len2 hl fun _ _ => rfl)⟩
 obtain ⟨n, x, rfl, kk⟩ := h
 obtain ⟨fnt, mnt, int⟩ := rNoText.init
 obtain ⟨gnt, pnt, Fnt, Bnt⟩ := init1_ok (P := P) (w := w) (mg := mg) (base := base) int
 obtain ⟨fns, mns, ins⟩ := rNoStep.init
 obtain ⟨gns, pns, Fns, Bns⟩ := init1_ok (P := P) (w := w) (mg := mg) (base := base) ins
 obtain ⟨ftm, mtm, itm⟩ := rTooMany.init
 obtain ⟨gtm, ptm, Ftm, Btm⟩ := init1_ok (P := P) (w := w) (mg := mg) (base := base) itm
 obtain ⟨fnp, mnp, inp⟩ := rNoPaper.init
 obtain ⟨gnp, pnp, Fnp, Bnp⟩ := init1_ok (P := P) (w := w) (mg := mg) (base := base) inp
 obtain ⟨fng, mng, ing⟩ := rNoGrammar.init
 obtain ⟨gng, png, Fng, Bng⟩ := init1_ok (P := P) (w := w) (mg := mg) (base := base) ing
 obtain ⟨fnh, mnh, inh⟩ := rNoHouse.init
 obtain ⟨gnh, pnh, Fnh, Bnh⟩ := init2_ok (by decide) (P := P) (w := w) (mg := mg) (base := base) inh
 refine ⟨_, pss_one (ps_ret (pe_lst (pa_cons (pe_mkx mnt Fnt hr Bnt (by decide) rfl EC.nt (pa_cons (pe_var (i := 0) rfl (by first | exact Or.inl rfl | exact Or.inr (Or.inl rfl) | exact Or.inr (Or.inr rfl))) pa_nil)) (pa_cons (pe_mkx mnh Fnh hr Bnh (by decide) rfl EC.nh (pa_cons (pe_var (i := 1) rfl (by first | exact Or.inl rfl | exact Or.inr (Or.inl rfl) | exact Or.inr (Or.inr rfl))) (pa_cons (pe_var (i := 0) rfl (by first | exact Or.inl rfl | exact Or.inr (Or.inl rfl) | exact Or.inr (Or.inr rfl))) pa_nil))) (pa_cons (pe_mkx mns Fns hr Bns (by decide) rfl EC.ns (pa_cons (pe_var (i := 0) rfl (by first | exact Or.inl rfl | exact Or.inr (Or.inl rfl) | exact Or.inr (Or.inr rfl))) pa_nil)) (pa_cons (pe_mkx mtm Ftm hr Btm (by decide) rfl EC.tm (pa_cons (pe_var (i := 0) rfl (by first | exact Or.inl rfl | exact Or.inr (Or.inl rfl) | exact Or.inr (Or.inr rfl))) pa_nil)) (pa_cons (pe_mkx mnp Fnp hr Bnp (by decide) rfl EC.np (pa_cons (pe_var (i := 0) rfl (by first | exact Or.inl rfl | exact Or.inr (Or.inl rfl) | exact Or.inr (Or.inr rfl))) pa_nil)) (pa_cons (pe_mkx mng Fng hr Bng (by decide) rfl EC.ng (pa_cons (pe_var (i := 0) rfl (by first | exact Or.inl rfl | exact Or.inr (Or.inl rfl) | exact Or.inr (Or.inr rfl))) pa_nil)) (pa_cons (pe_mk0 rNoRow.make rfl EC.nr) pa_nil))))))))), ?_⟩
 exact exs_lst (exs_cons (exo_1 rfl) (exs_cons (exo_2 rfl rfl) (exs_cons (exo_1 rfl) (exs_cons (exo_1 rfl) (exs_cons (exo_1 rfl) (exs_cons (exo_1 rfl) (exs_cons exo_0 exs_nil))))))) (by decide : 7 ≤ 1000) kk
end
section
variable {P : Program} {w : World} {K : PySem.W.Frag} {mg : Str → Option Value} {base : Heap} {k : Nat}
abbrev sFieldsL : Stmt := top 13
theorem scFieldsL : FnScope ["_law_made_here"] ["_law_made_here"] (defScope sFieldsL) := ⟨rfl, rfl, rfl, by decide +kernel, rfl, by decide +kernel, by decide +kernel⟩
theorem d_law_fields (B : Blt mg) {ea : EA} (EC : ErrC K mg ea) (rNoText : RNoText K ea) (rNoHouse : RNoHouse K ea) (rNoStep : RNoStep K ea) (rTooMany : RTooMany K ea) (rNoPaper : RNoPaper K ea) (rNoGrammar : RNoGrammar K ea) (rNoRow : RNoRow K ea) (T : Top3 K mg "_law_fields" sFieldsL) : Def3 P w K mg base 1 "_law_fields" ["_law_made_here"] (spG K (fun _ => True) 1 (fieldsF ea)) := by
 refine mk_G T scFieldsL (fun _ _ _ _ _ _ us hl => len1 hl fun _ => rfl) rfl fun f cdv A outer s H E O hφ C => ⟨_, (ss_one (s_ret (e_lst (a_cons (e_fldE 0 0 C) (a_cons (e_fldE 0 1 C) (a_cons (e_fldE 0 1 C) (a_cons (e_fldE 0 2 C) (a_cons (e_fldE 0 3 C) (a_cons (e_fldE 0 4 C) (a_cons (e_fldE 0 5 C) a_nil)))))))))), fun rs Qr hn q => ?_⟩
 obtain ⟨n, x, rfl, q⟩ := q
 refine ⟨_, _, _, _, _, rfl, rfl, rNoText.get, rNoText.nof, rfl, rfl, ?_⟩
 refine ⟨_, _, _, _, _, rfl, rfl, rNoHouse.get, rNoHouse.nof, rfl, rfl, ?_⟩
 refine ⟨_, _, _, _, _, rfl, rfl, rNoHouse.get, rNoHouse.nof2, rfl, rfl, ?_⟩
 refine ⟨_, _, _, _, _, rfl, rfl, rNoStep.get, rNoStep.nof, rfl, rfl, ?_⟩
 refine ⟨_, _, _, _, _, rfl, rfl, rTooMany.get, rTooMany.nof, rfl, rfl, ?_⟩
 refine ⟨_, _, _, _, _, rfl, rfl, rNoPaper.get, rNoPaper.nof, rfl, rfl, ?_⟩
 refine ⟨_, _, _, _, _, rfl, rfl, rNoGrammar.get, rNoGrammar.nof, rfl, rfl, ?_⟩
 exact ⟨by show 7 ≤ sizeLine; rw [sizeLine_eq]; omega, q⟩
end
section
variable {P : Program} {w : World} {K : PySem.W.Frag} {mg : Str → Option Value} {base : Heap} {k : Nat}
abbrev sSortsL : Stmt := top 14
theorem scSortsL : FnScope ["_law_e", "_law_some"] ["_law_e"] (defScope sSortsL) := ⟨rfl, rfl, rfl, by decide +kernel, rfl, by decide +kernel, by decide +kernel⟩
theorem d_law_sorts (B : Blt mg) {ea : EA} (EC : ErrC K mg ea) (rNoText : RNoText K ea) (rNoHouse : RNoHouse K ea) (rNoStep : RNoStep K ea) (rTooMany : RTooMany K ea) (rNoPaper : RNoPaper K ea) (rNoGrammar : RNoGrammar K ea) (rNoRow : RNoRow K ea) (T : Top3 K mg "_law_sorts" sSortsL) : Def3 P w K mg base 1 "_law_sorts" ["_law_e"] (spG K (fun _ => True) 1 (sortsF ea)) := by
 refine mk_G T scSortsL (fun _ _ _ _ _ _ us hl => len1 hl fun _ => rfl) rfl fun f cdv A outer s H E O hφ C => ⟨_, (ss_cons (s_set 1 (e_lst (a_cons (e_isEo 0 C B EC.nt) (a_cons (e_isEo 0 C B EC.nh) (a_cons (e_isEo 0 C B EC.ns) (a_cons (e_isEo 0 C B EC.tm) a_nil)))))) (ss_one (s_ret (e_add C (e_var 1) (e_lst (a_cons (e_isEo 0 C B EC.np) (a_cons (e_isEo 0 C B EC.ng) (a_cons (e_isEo 0 C B EC.nr) a_nil)))))))), fun rs Qr hn q => ?_⟩
 obtain ⟨j, c, g, rfl, hc, q⟩ := q
 have a := all7 EC rNoText rNoHouse rNoStep rTooMany rNoPaper rNoGrammar rNoRow
 refine ⟨_, _, _, rfl, a.get j _ hc, a.kit j 0 _ _ hc rfl, ?_⟩
 refine ⟨_, _, _, rfl, a.get j _ hc, a.kit j 1 _ _ hc rfl, ?_⟩
 refine ⟨_, _, _, rfl, a.get j _ hc, a.kit j 2 _ _ hc rfl, ?_⟩
 refine ⟨_, _, _, rfl, a.get j _ hc, a.kit j 3 _ _ hc rfl, ?_⟩
 refine ⟨by show 4 ≤ sizeLine; rw [sizeLine_eq]; omega, rfl, ?_⟩
 refine ⟨_, _, rfl, rfl, ?_⟩
 refine ⟨_, _, _, rfl, a.get j _ hc, a.kit j 4 _ _ hc rfl, ?_⟩
 refine ⟨_, _, _, rfl, a.get j _ hc, a.kit j 5 _ _ hc rfl, ?_⟩
 refine ⟨_, _, _, rfl, a.get j _ hc, a.kit j 6 _ _ hc rfl, ?_⟩
 refine ⟨by show 3 ≤ sizeLine; rw [sizeLine_eq]; omega, _, rfl, q⟩
end
section
variable {P : Program} {w : World} {K : PySem.W.Frag} {mg : Str → Option Value} {base : Heap} {k : Nat}
abbrev sLaw : Stmt := top 15
theorem scLaw : FnScope ["_law_script", "_law_deal_here", "_law_n", "_law_word", "_law_made_here", "_law_others", "_law_k", "_law_due", "_law_e"] ["_law_script"] (defScope sLaw) := ⟨rfl, rfl, rfl, by decide +kernel, rfl, by decide +kernel, by decide +kernel⟩
theorem law_ok (B : Blt mg) {ea : EA} (EC : ErrC K mg ea) (rNoText : RNoText K ea) (rNoHouse : RNoHouse K ea) (rNoStep : RNoStep K ea) (rTooMany : RTooMany K ea) (rNoPaper : RNoPaper K ea) (rNoGrammar : RNoGrammar K ea) (rNoRow : RNoRow K ea) (d_law_deal : Def3 P w K mg base 1 "_law_deal" ["_law_script", "_law_base"] (spDeal K)) (d_law_draw : DDraw P w K mg base) (d_law_made : Def3 P w K mg base 3 "_law_made" ["_law_n", "_law_word"] (spMade ea)) (d_law_fields : Def3 P w K mg base 1 "_law_fields" ["_law_made_here"] (spG K (fun _ => True) 1 (fieldsF ea))) (d_law_sorts : Def3 P w K mg base 1 "_law_sorts" ["_law_e"] (spG K (fun _ => True) 1 (sortsF ea))) {f₁ : Addr} {fd₁ : FuncData} (Fu : Fun K "law" "law" sLaw f₁ fd₁) : FnOk P w K mg base CX0 4 f₁ fd₁ ["_law_script"] (spLaw K) := by
 refine mk_law5 (k := 3) Fu scLaw rfl (fun f cdv A outer s H E C => ?_) (fun f cdv A outer s H E C => ?_)
 · obtain ⟨fP, fdP, G, mP, kpP, bnP⟩ := d_law_deal.ex
   exact ps_set (i := 1) (of_decide_eq_true (by kernel_rfl)) rfl (by first | exact Or.inl rfl | exact Or.inr rfl) (pe_call (k := 3) (G.mono (by decide)) (C.room ()) rfl mP kpP bnP .nil pass0 (pa_cons (pe_var (i := 0) rfl (by first | exact Or.inl rfl | exact Or.inr (Or.inl rfl) | exact Or.inr (Or.inr rfl))) (pa_cons pe_int pa_nil)))
 · have hO : ∀ j : Addr × Addr, IsDeal ((fun j : Addr × Addr => dealOb j.1 j.2) j) := fun j => dealOb_is _ _
   refine ⟨_, (ss_cons (s_set 2 (e_sub (e_callO 1 C d_law_draw hO (a_cons (e_idx C (e_lst (a_cons e_int (a_cons (e_pow e_int e_int) a_nil))) (e_callO 1 C d_law_draw hO (a_cons e_int a_nil))) a_nil)) e_int)) (ss_cons (s_set 3 (e_idx C (e_lst (a_cons e_str (a_cons e_str (a_cons e_str (a_cons e_str (a_cons e_str (a_cons e_str a_nil))))))) (e_callO 1 C d_law_draw hO (a_cons e_int a_nil)))) (ss_cons (s_mkE 4 C d_law_made (a_cons (e_var 2) (a_cons (e_var 3) a_nil))) (ss_cons (s_mkE 5 C d_law_made (a_cons (e_add C (e_var 2) e_int) (a_cons e_str a_nil))) (ss_cons (s_for C (j_new (i_r1 C B (a_cons e_int a_nil))) (g_name (h := 1000) 6) (ss_cons (s_setC 7 1 ["_law_j", "_law_script", "_law_deal_here", "_law_n", "_law_word", "_law_made_here", "_law_others", "_law_k", "_law_due", "_law_e"] C (fun _ => .of rfl (by kernel_rfl)) (i_r1 C B (a_cons e_int a_nil)) (g_name 0) f_nil (e_eq (C.comp _ _) (e_var 0) (e_var 7))) (ss_one (s_forX 8 4 5 6 C (ss_one (s_if (t_w (w_or (t_not (t_val (e_isEo 8 C B EC.le))) (w_or (t_not (t_val (e_isEb (cv := .type "ValueError") 8 C B EC.vb))) (w_or1 (t_ne C (e_callG C d_law_sorts (fun _ => trivial) (g_thr 8 g_nil)) (e_var 7)))))) (ss_one (s_ret e_bl)) ss_nil)))))) (ss_cons (s_if (t_ne C (e_repr C B (a_cons (e_callG C d_law_fields (fun _ => trivial) (g_thr 5 g_nil)) a_nil)) (e_repr C B (a_cons (e_lst (a_cons (e_add C (e_var 2) e_int) (a_cons e_str (a_cons (e_add C (e_var 2) e_int) (a_cons (e_add C (e_var 2) e_int) (a_cons (e_add C (e_var 2) e_int) (a_cons (e_add C (e_var 2) e_int) (a_cons (e_add C (e_var 2) e_int) a_nil)))))))) a_nil))) (ss_one (s_ret e_bl)) ss_nil) (ss_one (s_ret (e_eq C (e_repr C B (a_cons (e_callG C d_law_fields (fun _ => trivial) (g_thr 4 g_nil)) a_nil)) (e_repr C B (a_cons (e_lst (a_cons (e_var 2) (a_cons (e_var 3) (a_cons (e_var 2) (a_cons (e_var 2) (a_cons (e_var 2) (a_cons (e_var 2) (a_cons (e_var 2) a_nil)))))))) a_nil))))))))))), ?_⟩
   have sz := sizeLine_eq
   (repeat infer_instance)
   refine ⟨⟨by decide, by decide, by decide⟩, ?_⟩
   (repeat infer_instance)
   refine dr (by decide) (by decide) fun k1 hk1 => ?_
   obtain ⟨z, ez, hz⟩ := two_at hk1 (x := .int 10) (y := .int ((10 : Int) ^ (9 : Int).toNat))
   have hm : ∃ m : Int, z = .int m ∧ 0 < m ∧ m < 1073741824 ∧ m ≤ 1000000000 := by
     rcases hz with e | e
     · exact ⟨10, e, by decide, by decide, by decide⟩
     · exact ⟨_, e, by decide, by decide, by decide⟩
   obtain ⟨m, rfl, m0, m1, m2⟩ := hm
   (repeat first | refine ⟨_, ez, ?_⟩ | refine ⟨ez, ?_⟩ | infer_instance)
   refine dr m0 m1 fun k2 hk2 => ?_
   (repeat infer_instance)
   refine dr (by decide) (by decide) fun k3 hk3 => ?_
   obtain ⟨x, ex, ok, lx⟩ := wrd_at hk3
   (repeat first | refine ⟨_, ex, ?_⟩ | refine ⟨ex, ?_⟩ | infer_instance)
   skip
   refine ⟨by decide, by decide, rfl, ?_⟩
   have a7 := all7 EC rNoText rNoHouse rNoStep rTooMany rNoPaper rNoGrammar rNoRow
   refine forGo_rev (fun j ρ => ∃ (o6 o7 o8 : Option DV), ρ = [none, some .ob, some (.im (.int ((k2 : Int) - 1))), some (.im (.str x)), some (.thr (XsT (madeL ea ((k2 : Int) - 1) x))), some (.thr (XsT (madeL ea ((k2 : Int) - 1 + 1) "rule"))), o6, o7, o8]) ⟨none, none, none, rfl⟩ (fun ρ zz => ?_) fun j d ρ N hd hN ⟨o6, o7, o8, e⟩ => ⟨?_, ?_⟩
   · obtain ⟨o6, o7, o8, e⟩ := zz
     subst e
     obtain ⟨y1, ey1, oy1⟩ := repr_fld (n := (k2 : Int) - 1 + 1) (w := "rule") (by omega) (by omega) (by decide +kernel) (by decide +kernel)
     obtain ⟨y2, ey2, oy2⟩ := repr_fld (n := (k2 : Int) - 1) (w := x) (by omega) (by omega) ok lx
     (repeat first | refine ⟨_, ey1, ?_⟩ | refine ⟨ey1, ?_⟩ | refine ⟨_, eq_self oy1, ?_⟩ | refine ⟨eq_self oy1, ?_⟩ | infer_instance)
     (repeat first | refine ⟨_, ey2, ?_⟩ | refine ⟨ey2, ?_⟩ | refine ⟨_, eq_self oy2, ?_⟩ | refine ⟨eq_self oy2, ?_⟩ | infer_instance)
     exact rfl
   · obtain ⟨hj, rfl⟩ := numsD_get hd
     rfl
   · subst e
     obtain ⟨hj, rfl⟩ := numsD_get hd
     rw [Int.zero_add]
     (repeat infer_instance)
     refine ⟨by decide, by decide, ?_⟩
     refine comp_of (α := Nat) (enc := fun i => .int ((0 : Int) + (i : Nat))) (as := List.range 7) (e := fun i => .bool (decide ((0 : Int) + (i : Nat) = (j : Nat)))) (fun i hi P hP => ?_) (by rw [List.length_range]; omega) ?_
     · (repeat infer_instance)
       exact hP _ rfl
     · rw [due_map hj]
       refine ⟨rfl, ?_⟩
       obtain ⟨C1, f1, g1, c1⟩ := made_at (ea := ea) (n := (k2 : Int) - 1) (w := x) hj
       obtain ⟨C2, f2, g2, c2⟩ := made_at (ea := ea) (n := (k2 : Int) - 1 + 1) (w := "rule") hj
       refine ⟨_, _, j, C1, f1, C2, f2, rfl, rfl, rfl, g1, g2, ?_⟩
       refine ⟨_, _, _, rfl, a7.get j _ c1, a7.lost j _ c1, _, rfl, iteF ?_⟩
       refine ⟨_, _, _, rfl, a7.get j _ c1, a7.val j _ c1, _, rfl, iteF ?_⟩
       refine ⟨_, rfl, rfl, j, _, _, rfl, c1, ?_⟩
       refine ⟨_, _, rfl, rfl, _, due_eq hj, _, rfl, iteF ?_⟩
       refine ⟨_, _, _, rfl, a7.get j _ c2, a7.lost j _ c2, _, rfl, iteF ?_⟩
       refine ⟨_, _, _, rfl, a7.get j _ c2, a7.val j _ c2, _, rfl, iteF ?_⟩
       refine ⟨_, rfl, rfl, j, _, _, rfl, c2, ?_⟩
       refine ⟨_, _, rfl, rfl, _, due_eq hj, _, rfl, iteF ?_⟩
       exact hN _ ⟨_, _, _, rfl⟩
end
end L10
namespace L10
open PySem PySem.Spec
open PyProof.Rows hiding St
open L2 L3
def DIn (K : PySem.W.Frag) (x : Str) (st : Stmt) : Prop := ∃ (f : Addr) (od an : Option Addr) (sl : Array (Option Value)) (oc kV dc pm cd ct : Value), PySem.W.nsIn K mainGlobals x = some (some (.ref f)) ∧ K.lookup f = some ⟨oc, od, .func (PySem.W.fnOf x x (defArgs st) (defBody st) (defScope st) .none kV dc pm an cd ct), sl⟩ ∧ PySem.W.codeIn K cd x = true ∧ PySem.W.keepIn K (.ref f) = true
theorem din_mk {K : PySem.W.Frag} {x : Str} {st : Stmt} {f : Addr} {od an : Option Addr} {sl : Array (Option Value)} {oc kV dc pm cd ct : Value} (a : PySem.W.nsIn K mainGlobals x = some (some (.ref f))) (l : K.lookup f = some ⟨oc, od, .func (PySem.W.fnOf x x (defArgs st) (defBody st) (defScope st) .none kV dc pm an cd ct), sl⟩) (c : PySem.W.codeIn K cd x = true) (k : PySem.W.keepIn K (.ref f) = true) : DIn K x st := ⟨f, od, an, sl, oc, kV, dc, pm, cd, ct, a, l, c, k⟩
theorem din_top {K : PySem.W.Frag} {x : Str} {st : Stmt} {h : Heap} {mg : Str → Option Value} (X : K.In h) (G : h.Ns mainGlobals mg) (D : DIn K x st) : Top3 K mg x st := by obtain ⟨f, _, _, _, _, _, _, _, _, _, a, l, c, k⟩ := D; exact ⟨f, _, fun_mk (st := st) l c k, PySem.W.mg_of X G a⟩
theorem all_mk {l : PySem.W.OpenLaw} {w : World} {K : PySem.W.Frag} {h : Heap} {mg : Str → Option Value} {fa : Addr} {ea : EA} (X : K.In h) (G : h.Ns mainGlobals mg) (hfa : mg "law" = some (.ref fa))
   (D1 : DIn K "_law_deal" sDeal)
   (D2 : DIn K "_law_draw" sDraw)
   (D3 : DIn K "_law_made" sMadeL)
   (D4 : DIn K "_law_fields" sFieldsL)
   (D5 : DIn K "_law_sorts" sSortsL)
   (D6 : DIn K "law" sLaw)
   (z1 : PySem.W.nsIn K mainGlobals "len" = some none)
   (z2 : PySem.W.nsIn K mainGlobals "all" = some none)
   (z3 : PySem.W.nsIn K mainGlobals "any" = some none)
   (z4 : PySem.W.nsIn K mainGlobals "sorted" = some none)
   (z5 : PySem.W.nsIn K mainGlobals "min" = some none)
   (z6 : PySem.W.nsIn K mainGlobals "max" = some none)
   (z7 : PySem.W.nsIn K mainGlobals "repr" = some none)
   (z8 : PySem.W.nsIn K mainGlobals "int" = some none)
   (z9 : PySem.W.nsIn K mainGlobals "list" = some none)
   (z10 : PySem.W.nsIn K mainGlobals "tuple" = some none)
   (z11 : PySem.W.nsIn K mainGlobals "range" = some none)
   (z12 : PySem.W.nsIn K mainGlobals "set" = some none)
   (z13 : PySem.W.nsIn K mainGlobals "isinstance" = some none)
   (z14 : PySem.W.nsIn K mainGlobals "enumerate" = some none)
   (z15 : PySem.W.nsIn K mainGlobals "zip" = some none)
   (z16 : PySem.W.nsIn K mainGlobals "reversed" = some none)
   (z17 : PySem.W.nsIn K mainGlobals "str" = some none)
   (z18 : PySem.W.nsIn K mainGlobals "sum" = some none)
   (z19 : PySem.W.nsIn K mainGlobals "dict" = some none)
   (z20 : PySem.W.nsIn K mainGlobals "bool" = some none)
   (XE : ErrIn K ea) (rNoText : RNoText K ea) (rNoHouse : RNoHouse K ea) (rNoStep : RNoStep K ea) (rTooMany : RTooMany K ea) (rNoPaper : RNoPaper K ea) (rNoGrammar : RNoGrammar K ea) (rNoRow : RNoRow K ea)
   : ∃ fd : FuncData, (∀ (s : Shared) (v : Value), BindsTo s fd ⟨[v], []⟩ [("_law_script", v)]) ∧ ∀ base : Heap, K.In base → base.Ns mainGlobals mg → FnOk l.prog w K mg base CX0 4 fa fd ["_law_script"] (spLaw K) := by
 have T1 := din_top X G D1
 have T2 := din_top X G D2
 have T3 := din_top X G D3
 have T4 := din_top X G D4
 have T5 := din_top X G D5
 have T6 := din_top X G D6
 have B : Blt mg := ⟨PySem.W.mg_none_of X G z1, PySem.W.mg_none_of X G z2, PySem.W.mg_none_of X G z3, PySem.W.mg_none_of X G z4, PySem.W.mg_none_of X G z5, PySem.W.mg_none_of X G z6, PySem.W.mg_none_of X G z7, PySem.W.mg_none_of X G z8, PySem.W.mg_none_of X G z9, PySem.W.mg_none_of X G z10, PySem.W.mg_none_of X G z11, PySem.W.mg_none_of X G z12, PySem.W.mg_none_of X G z13, PySem.W.mg_none_of X G z14, PySem.W.mg_none_of X G z15, PySem.W.mg_none_of X G z16, PySem.W.mg_none_of X G z17, PySem.W.mg_none_of X G z18, PySem.W.mg_none_of X G z19, PySem.W.mg_none_of X G z20⟩
 have EC := XE.errC X G
 obtain ⟨f6, od6, an6, sl6, oc6, kV6, dc6, pm6, cd6, ct6, a6, l6, c6, k6⟩ := D6
 have e := hfa.symm.trans (PySem.W.mg_of X G a6)
 cases e
 refine ⟨PySem.W.fnOf "law" "law" (defArgs sLaw) (defBody sLaw) (defScope sLaw) .none kV6 dc6 pm6 an6 cd6 ct6, fun s v => .of_eq rfl, fun base _ _ => ?_⟩
 have e1 := d_law_deal (P := l.prog) (w := w) (base := base) B T1
 have e2 := d_law_draw (P := l.prog) (w := w) (base := base) B T2
 have e3 := d_law_made (P := l.prog) (w := w) (base := base) B EC rNoText rNoHouse rNoStep rTooMany rNoPaper rNoGrammar rNoRow T3
 have e4 := d_law_fields (P := l.prog) (w := w) (base := base) B EC rNoText rNoHouse rNoStep rTooMany rNoPaper rNoGrammar rNoRow T4
 have e5 := d_law_sorts (P := l.prog) (w := w) (base := base) B EC rNoText rNoHouse rNoStep rTooMany rNoPaper rNoGrammar rNoRow T5
 exact law_ok B EC rNoText rNoHouse rNoStep rTooMany rNoPaper rNoGrammar rNoRow e1 e2 e3 e4 e5 (fun_mk (st := sLaw) l6 c6 k6)
theorem walk {l : PySem.W.OpenLaw} {q : Program} {loose : List Str} {XP : (Str → Option Value) → Heap → Prop} {YP : World → Heap → Prop} {d : DefRec} {K : Params → PySem.W.Frag} (hn : l.most = some 63) (hdf : d.params.defaults = [])
   (hY : ∀ (w : World) (h : Heap), YP w h → (K w.params).In h)
   (F : ∀ (w : World) (mg : Str → Option Value) (fa : Addr) (h : Heap), (K w.params).In h → h.Ns mainGlobals mg → mg d.name = some (.ref fa) →
     ∃ fd : FuncData, (∀ (s : Shared) (u : Value), BindsTo s fd ⟨[u], []⟩ [("_law_script", u)]) ∧ ∀ base : Heap, (K w.params).In base → base.Ns mainGlobals mg → FnOk l.prog w (K w.params) mg base CX0 4 fa fd ["_law_script"] (spLaw (K w.params))) :
   PySem.W.WalkO q loose XP YP l.row.toRowW d [] (fun f vs => PySem.call f vs) :=
 L2.walk_of (n := 63) (k := 4) (x := "_law_script") (CX := fun _ => CX0) (sp := fun w => spLaw (K w.params)) hn (by decide) hdf ⟨rfl, by decide, by decide, rfl⟩ hY F (fun _ _ a ns hl _ hS => ⟨a, ns, rfl, hS, hl, fun _ => rfl⟩) fun _ _ _ _ _ z => z
end L10
open PySem PySem.W PyProof.Rows
set_option maxRecDepth 100000 in
set_option maxHeartbeats 0 in
theorem PySem.Challenge.cw_lostpost_k10_refusals_holds : PySem.Challenge.rw_lostpost_k10_refusals.Holds := by
 w_on; o_law; k_head; (case hw => w_witness2)
 k_fill
 refine L10.walk (l := PySem.Challenge.rw_lostpost_k10_refusals) rfl rfl (fun w h Y => PySem.W.kIn_of Y) ?F
 case F =>
   intro w mg fa h KX G hmg
   refine' L10.all_mk KX G hmg (L10.din_mk ?a1 ?l1 ?c1 ?k1) (L10.din_mk ?a2 ?l2 ?c2 ?k2) (L10.din_mk ?a3 ?l3 ?c3 ?k3) (L10.din_mk ?a4 ?l4 ?c4 ?k4) (L10.din_mk ?a5 ?l5 ?c5 ?k5) (L10.din_mk ?a6 ?l6 ?c6 ?k6) ?z1 ?z2 ?z3 ?z4 ?z5 ?z6 ?z7 ?z8 ?z9 ?z10 ?z11 ?z12 ?z13 ?z14 ?z15 ?z16 ?z17 ?z18 ?z19 ?z20 (L3.errIn_mk ?xe1 ?xe2 ?xe3 ?xe4 ?xe5 ?xe6 ?xe7 ?xe8 ?xe9 ?xe10 ?xe11 ?xe12) (L3.raise1_mk ?xNoTexth1 ?xNoTexth2 ?xNoTexth3 ?xNoTexth4 ?xNoTexth5 ?xNoTexth6 ?xNoTexth7 ?xNoTexth8 ?xNoTexth9 ?xNoTexth10 ?xNoTexth11 ?xNoTexth12 ?xNoTexth13 ?xNoTexth14 ?xNoTexth15 ?xNoTexth16 ?xNoTexth17 ?xNoTexth18 ?xNoTexth19 ?xNoTexth20 (L3.no_cons ?xNoTextn0a ?xNoTextn0b ?xNoTextn0c ?xNoTextn0d (L3.no_cons ?xNoTextn1a ?xNoTextn1b ?xNoTextn1c ?xNoTextn1d (L3.no_cons ?xNoTextn2a ?xNoTextn2b ?xNoTextn2c ?xNoTextn2d (L3.no_cons ?xNoTextn3a ?xNoTextn3b ?xNoTextn3c ?xNoTextn3d (L3.no_cons ?xNoTextn4a ?xNoTextn4b ?xNoTextn4c ?xNoTextn4d (L3.no_cons ?xNoTextn5a ?xNoTextn5b ?xNoTextn5c ?xNoTextn5d L3.no_nil)))))) (L3.init1_mk ?xNoTexti1 ?xNoTexti2 ?xNoTexti3 ?xNoTexti4 ?xNoTexti5 ?xNoTexti6)) (L3.raise2_mk ?xNoHouseh1 ?xNoHouseh2 ?xNoHouseh3 ?xNoHouseh4 ?xNoHouseh5 ?xNoHouseh6 ?xNoHouseh7 ?xNoHouseh8 ?xNoHouseh9 ?xNoHouseh10 ?xNoHouseh11 ?xNoHouseh23 ?xNoHouseh12 ?xNoHouseh13 ?xNoHouseh14 ?xNoHouseh15 ?xNoHouseh16 ?xNoHouseh17 ?xNoHouseh18 ?xNoHouseh19 ?xNoHouseh20 (L3.no_cons ?xNoHousen0a ?xNoHousen0b ?xNoHousen0c ?xNoHousen0d (L3.no_cons ?xNoHousen1a ?xNoHousen1b ?xNoHousen1c ?xNoHousen1d (L3.no_cons ?xNoHousen2a ?xNoHousen2b ?xNoHousen2c ?xNoHousen2d (L3.no_cons ?xNoHousen3a ?xNoHousen3b ?xNoHousen3c ?xNoHousen3d (L3.no_cons ?xNoHousen4a ?xNoHousen4b ?xNoHousen4c ?xNoHousen4d (L3.no_cons ?xNoHousen5a ?xNoHousen5b ?xNoHousen5c ?xNoHousen5d L3.no_nil)))))) (L3.init2_mk ?xNoHousei1 ?xNoHousei2 ?xNoHousei3 ?xNoHousei4 ?xNoHousei5 ?xNoHousei6)) (L3.raise1_mk ?xNoSteph1 ?xNoSteph2 ?xNoSteph3 ?xNoSteph4 ?xNoSteph5 ?xNoSteph6 ?xNoSteph7 ?xNoSteph8 ?xNoSteph9 ?xNoSteph10 ?xNoSteph11 ?xNoSteph12 ?xNoSteph13 ?xNoSteph14 ?xNoSteph15 ?xNoSteph16 ?xNoSteph17 ?xNoSteph18 ?xNoSteph19 ?xNoSteph20 (L3.no_cons ?xNoStepn0a ?xNoStepn0b ?xNoStepn0c ?xNoStepn0d (L3.no_cons ?xNoStepn1a ?xNoStepn1b ?xNoStepn1c ?xNoStepn1d (L3.no_cons ?xNoStepn2a ?xNoStepn2b ?xNoStepn2c ?xNoStepn2d (L3.no_cons ?xNoStepn3a ?xNoStepn3b ?xNoStepn3c ?xNoStepn3d (L3.no_cons ?xNoStepn4a ?xNoStepn4b ?xNoStepn4c ?xNoStepn4d (L3.no_cons ?xNoStepn5a ?xNoStepn5b ?xNoStepn5c ?xNoStepn5d L3.no_nil)))))) (L3.init1_mk ?xNoStepi1 ?xNoStepi2 ?xNoStepi3 ?xNoStepi4 ?xNoStepi5 ?xNoStepi6)) (L3.raise1_mk ?xTooManyh1 ?xTooManyh2 ?xTooManyh3 ?xTooManyh4 ?xTooManyh5 ?xTooManyh6 ?xTooManyh7 ?xTooManyh8 ?xTooManyh9 ?xTooManyh10 ?xTooManyh11 ?xTooManyh12 ?xTooManyh13 ?xTooManyh14 ?xTooManyh15 ?xTooManyh16 ?xTooManyh17 ?xTooManyh18 ?xTooManyh19 ?xTooManyh20 (L3.no_cons ?xTooManyn0a ?xTooManyn0b ?xTooManyn0c ?xTooManyn0d (L3.no_cons ?xTooManyn1a ?xTooManyn1b ?xTooManyn1c ?xTooManyn1d (L3.no_cons ?xTooManyn2a ?xTooManyn2b ?xTooManyn2c ?xTooManyn2d (L3.no_cons ?xTooManyn3a ?xTooManyn3b ?xTooManyn3c ?xTooManyn3d (L3.no_cons ?xTooManyn4a ?xTooManyn4b ?xTooManyn4c ?xTooManyn4d (L3.no_cons ?xTooManyn5a ?xTooManyn5b ?xTooManyn5c ?xTooManyn5d L3.no_nil)))))) (L3.init1_mk ?xTooManyi1 ?xTooManyi2 ?xTooManyi3 ?xTooManyi4 ?xTooManyi5 ?xTooManyi6)) (L3.raise1_mk ?xNoPaperh1 ?xNoPaperh2 ?xNoPaperh3 ?xNoPaperh4 ?xNoPaperh5 ?xNoPaperh6 ?xNoPaperh7 ?xNoPaperh8 ?xNoPaperh9 ?xNoPaperh10 ?xNoPaperh11 ?xNoPaperh12 ?xNoPaperh13 ?xNoPaperh14 ?xNoPaperh15 ?xNoPaperh16 ?xNoPaperh17 ?xNoPaperh18 ?xNoPaperh19 ?xNoPaperh20 (L3.no_cons ?xNoPapern0a ?xNoPapern0b ?xNoPapern0c ?xNoPapern0d (L3.no_cons ?xNoPapern1a ?xNoPapern1b ?xNoPapern1c ?xNoPapern1d (L3.no_cons ?xNoPapern2a ?xNoPapern2b ?xNoPapern2c ?xNoPapern2d (L3.no_cons ?xNoPapern3a ?xNoPapern3b ?xNoPapern3c ?xNoPapern3d (L3.no_cons ?xNoPapern4a ?xNoPapern4b ?xNoPapern4c ?xNoPapern4d (L3.no_cons ?xNoPapern5a ?xNoPapern5b ?xNoPapern5c ?xNoPapern5d L3.no_nil)))))) (L3.init1_mk ?xNoPaperi1 ?xNoPaperi2 ?xNoPaperi3 ?xNoPaperi4 ?xNoPaperi5 ?xNoPaperi6)) (L3.raise1_mk ?xNoGrammarh1 ?xNoGrammarh2 ?xNoGrammarh3 ?xNoGrammarh4 ?xNoGrammarh5 ?xNoGrammarh6 ?xNoGrammarh7 ?xNoGrammarh8 ?xNoGrammarh9 ?xNoGrammarh10 ?xNoGrammarh11 ?xNoGrammarh12 ?xNoGrammarh13 ?xNoGrammarh14 ?xNoGrammarh15 ?xNoGrammarh16 ?xNoGrammarh17 ?xNoGrammarh18 ?xNoGrammarh19 ?xNoGrammarh20 (L3.no_cons ?xNoGrammarn0a ?xNoGrammarn0b ?xNoGrammarn0c ?xNoGrammarn0d (L3.no_cons ?xNoGrammarn1a ?xNoGrammarn1b ?xNoGrammarn1c ?xNoGrammarn1d (L3.no_cons ?xNoGrammarn2a ?xNoGrammarn2b ?xNoGrammarn2c ?xNoGrammarn2d (L3.no_cons ?xNoGrammarn3a ?xNoGrammarn3b ?xNoGrammarn3c ?xNoGrammarn3d (L3.no_cons ?xNoGrammarn4a ?xNoGrammarn4b ?xNoGrammarn4c ?xNoGrammarn4d (L3.no_cons ?xNoGrammarn5a ?xNoGrammarn5b ?xNoGrammarn5c ?xNoGrammarn5d L3.no_nil)))))) (L3.init1_mk ?xNoGrammari1 ?xNoGrammari2 ?xNoGrammari3 ?xNoGrammari4 ?xNoGrammari5 ?xNoGrammari6)) (L3.raise0_mk ?xNoRowh1 ?xNoRowh2 ?xNoRowh3 ?xNoRowh4 ?xNoRowh5 ?xNoRowh6 ?xNoRowh7 ?xNoRowh8 ?xNoRowh9 ?xNoRowh10 ?xNoRowh12 ?xNoRowh13 ?xNoRowh14 ?xNoRowh15 ?xNoRowh16 ?xNoRowh17 ?xNoRowh19 (L3.no_cons ?xNoRown0a ?xNoRown0b ?xNoRown0c ?xNoRown0d (L3.no_cons ?xNoRown1a ?xNoRown1b ?xNoRown1c ?xNoRown1d (L3.no_cons ?xNoRown2a ?xNoRown2b ?xNoRown2c ?xNoRown2d (L3.no_cons ?xNoRown3a ?xNoRown3b ?xNoRown3c ?xNoRown3d (L3.no_cons ?xNoRown4a ?xNoRown4b ?xNoRown4c ?xNoRown4d (L3.no_cons ?xNoRown5a ?xNoRown5b ?xNoRown5c ?xNoRown5d L3.no_nil)))))))
   (case a1 => k_is); (case l1 => k_is); (case c1 => k_is); (case k1 => k_is)
   (case a2 => k_is); (case l2 => k_is); (case c2 => k_is); (case k2 => k_is)
   (case a3 => k_is); (case l3 => k_is); (case c3 => k_is); (case k3 => k_is)
   (case a4 => k_is); (case l4 => k_is); (case c4 => k_is); (case k4 => k_is)
   (case a5 => k_is); (case l5 => k_is); (case c5 => k_is); (case k5 => k_is)
   (case a6 => k_is); (case l6 => k_is); (case c6 => k_is); (case k6 => k_is)
   (case z1 => k_is)
   (case z2 => k_is)
   (case z3 => k_is)
   (case z4 => k_is)
   (case z5 => k_is)
   (case z6 => k_is)
   (case z7 => k_is)
   (case z8 => k_is)
   (case z9 => k_is)
   (case z10 => k_is)
   (case z11 => k_is)
   (case z12 => k_is)
   (case z13 => k_is)
   (case z14 => k_is)
   (case z15 => k_is)
   (case z16 => k_is)
   (case z17 => k_is)
   (case z18 => k_is)
   (case z19 => k_is)
   (case z20 => k_is)
   (case xe1 => k_is)
   (case xe2 => k_is)
   (case xe3 => k_is)
   (case xe4 => k_is)
   (case xe5 => k_is)
   (case xe6 => k_is)
   (case xe7 => k_is)
   (case xe8 => k_is)
   (case xe9 => k_is)
   (case xe10 => k_is)
   (case xe11 => k_is)
   (case xe12 => k_is)
   (case xNoTexth1 => k_is)
   (case xNoTexth2 => k_is)
   (case xNoTexth3 => k_is)
   (case xNoTexth4 => k_is)
   (case xNoTexth5 => k_is)
   (case xNoTexth6 => k_is)
   (case xNoTexth7 => k_is)
   (case xNoTexth8 => k_is)
   (case xNoTexth9 => k_is)
   (case xNoTexth10 => k_is)
   (case xNoTexth11 => k_is)
   (case xNoTexth12 => k_is)
   (case xNoTexth13 => k_is)
   (case xNoTexth14 => k_is)
   (case xNoTexth15 => exact L3.strKeys_of (by kernel_rfl))
   (case xNoTexth16 => kernel_rfl)
   (case xNoTexth17 => k_is)
   (case xNoTexth18 => k_is)
   (case xNoTexth19 => k_is)
   (case xNoTexth20 => k_is)
   (case xNoTextn0a => decide +kernel); (case xNoTextn0b => k_is); (case xNoTextn0c => k_is); (case xNoTextn0d => k_is)
   (case xNoTextn1a => decide +kernel); (case xNoTextn1b => k_is); (case xNoTextn1c => k_is); (case xNoTextn1d => k_is)
   (case xNoTextn2a => decide +kernel); (case xNoTextn2b => k_is); (case xNoTextn2c => k_is); (case xNoTextn2d => k_is)
   (case xNoTextn3a => decide +kernel); (case xNoTextn3b => k_is); (case xNoTextn3c => k_is); (case xNoTextn3d => k_is)
   (case xNoTextn4a => decide +kernel); (case xNoTextn4b => k_is); (case xNoTextn4c => k_is); (case xNoTextn4d => k_is)
   (case xNoTextn5a => decide +kernel); (case xNoTextn5b => k_is); (case xNoTextn5c => k_is); (case xNoTextn5d => k_is)
   (case xNoTexti1 => k_is); (case xNoTexti2 => k_is); (case xNoTexti3 => exact ⟨rfl, rfl, rfl, by decide +kernel, rfl, by decide +kernel, by decide +kernel⟩); (case xNoTexti4 => exact ⟨Or.inl rfl, Or.inl rfl⟩); (case xNoTexti5 => decide +kernel); (case xNoTexti6 => exact fun us hl => L3.len2 hl fun _ _ => rfl)
   (case xNoHouseh1 => k_is)
   (case xNoHouseh2 => k_is)
   (case xNoHouseh3 => k_is)
   (case xNoHouseh4 => k_is)
   (case xNoHouseh5 => k_is)
   (case xNoHouseh6 => k_is)
   (case xNoHouseh7 => k_is)
   (case xNoHouseh8 => k_is)
   (case xNoHouseh9 => k_is)
   (case xNoHouseh10 => k_is)
   (case xNoHouseh11 => k_is)
   (case xNoHouseh12 => k_is)
   (case xNoHouseh13 => k_is)
   (case xNoHouseh14 => k_is)
   (case xNoHouseh15 => exact L3.strKeys_of (by kernel_rfl))
   (case xNoHouseh16 => kernel_rfl)
   (case xNoHouseh17 => k_is)
   (case xNoHouseh18 => k_is)
   (case xNoHouseh19 => k_is)
   (case xNoHouseh20 => k_is)
   (case xNoHouseh23 => k_is)
   (case xNoHousen0a => decide +kernel); (case xNoHousen0b => k_is); (case xNoHousen0c => k_is); (case xNoHousen0d => k_is)
   (case xNoHousen1a => decide +kernel); (case xNoHousen1b => k_is); (case xNoHousen1c => k_is); (case xNoHousen1d => k_is)
   (case xNoHousen2a => decide +kernel); (case xNoHousen2b => k_is); (case xNoHousen2c => k_is); (case xNoHousen2d => k_is)
   (case xNoHousen3a => decide +kernel); (case xNoHousen3b => k_is); (case xNoHousen3c => k_is); (case xNoHousen3d => k_is)
   (case xNoHousen4a => decide +kernel); (case xNoHousen4b => k_is); (case xNoHousen4c => k_is); (case xNoHousen4d => k_is)
   (case xNoHousen5a => decide +kernel); (case xNoHousen5b => k_is); (case xNoHousen5c => k_is); (case xNoHousen5d => k_is)
   (case xNoHousei1 => k_is); (case xNoHousei2 => k_is); (case xNoHousei3 => exact ⟨rfl, rfl, rfl, by decide +kernel, rfl, by decide +kernel, by decide +kernel⟩); (case xNoHousei4 => exact ⟨Or.inl rfl, Or.inl rfl, Or.inl rfl⟩); (case xNoHousei5 => decide +kernel); (case xNoHousei6 => exact fun us hl => L3.len3 hl fun _ _ _ => rfl)
   (case xNoSteph1 => k_is)
   (case xNoSteph2 => k_is)
   (case xNoSteph3 => k_is)
   (case xNoSteph4 => k_is)
   (case xNoSteph5 => k_is)
   (case xNoSteph6 => k_is)
   (case xNoSteph7 => k_is)
   (case xNoSteph8 => k_is)
   (case xNoSteph9 => k_is)
   (case xNoSteph10 => k_is)
   (case xNoSteph11 => k_is)
   (case xNoSteph12 => k_is)
   (case xNoSteph13 => k_is)
   (case xNoSteph14 => k_is)
   (case xNoSteph15 => exact L3.strKeys_of (by kernel_rfl))
   (case xNoSteph16 => kernel_rfl)
   (case xNoSteph17 => k_is)
   (case xNoSteph18 => k_is)
   (case xNoSteph19 => k_is)
   (case xNoSteph20 => k_is)
   (case xNoStepn0a => decide +kernel); (case xNoStepn0b => k_is); (case xNoStepn0c => k_is); (case xNoStepn0d => k_is)
   (case xNoStepn1a => decide +kernel); (case xNoStepn1b => k_is); (case xNoStepn1c => k_is); (case xNoStepn1d => k_is)
   (case xNoStepn2a => decide +kernel); (case xNoStepn2b => k_is); (case xNoStepn2c => k_is); (case xNoStepn2d => k_is)
   (case xNoStepn3a => decide +kernel); (case xNoStepn3b => k_is); (case xNoStepn3c => k_is); (case xNoStepn3d => k_is)
   (case xNoStepn4a => decide +kernel); (case xNoStepn4b => k_is); (case xNoStepn4c => k_is); (case xNoStepn4d => k_is)
   (case xNoStepn5a => decide +kernel); (case xNoStepn5b => k_is); (case xNoStepn5c => k_is); (case xNoStepn5d => k_is)
   (case xNoStepi1 => k_is); (case xNoStepi2 => k_is); (case xNoStepi3 => exact ⟨rfl, rfl, rfl, by decide +kernel, rfl, by decide +kernel, by decide +kernel⟩); (case xNoStepi4 => exact ⟨Or.inl rfl, Or.inl rfl⟩); (case xNoStepi5 => decide +kernel); (case xNoStepi6 => exact fun us hl => L3.len2 hl fun _ _ => rfl)
   (case xTooManyh1 => k_is)
   (case xTooManyh2 => k_is)
   (case xTooManyh3 => k_is)
   (case xTooManyh4 => k_is)
   (case xTooManyh5 => k_is)
   (case xTooManyh6 => k_is)
   (case xTooManyh7 => k_is)
   (case xTooManyh8 => k_is)
   (case xTooManyh9 => k_is)
   (case xTooManyh10 => k_is)
   (case xTooManyh11 => k_is)
   (case xTooManyh12 => k_is)
   (case xTooManyh13 => k_is)
   (case xTooManyh14 => k_is)
   (case xTooManyh15 => exact L3.strKeys_of (by kernel_rfl))
   (case xTooManyh16 => kernel_rfl)
   (case xTooManyh17 => k_is)
   (case xTooManyh18 => k_is)
   (case xTooManyh19 => k_is)
   (case xTooManyh20 => k_is)
   (case xTooManyn0a => decide +kernel); (case xTooManyn0b => k_is); (case xTooManyn0c => k_is); (case xTooManyn0d => k_is)
   (case xTooManyn1a => decide +kernel); (case xTooManyn1b => k_is); (case xTooManyn1c => k_is); (case xTooManyn1d => k_is)
   (case xTooManyn2a => decide +kernel); (case xTooManyn2b => k_is); (case xTooManyn2c => k_is); (case xTooManyn2d => k_is)
   (case xTooManyn3a => decide +kernel); (case xTooManyn3b => k_is); (case xTooManyn3c => k_is); (case xTooManyn3d => k_is)
   (case xTooManyn4a => decide +kernel); (case xTooManyn4b => k_is); (case xTooManyn4c => k_is); (case xTooManyn4d => k_is)
   (case xTooManyn5a => decide +kernel); (case xTooManyn5b => k_is); (case xTooManyn5c => k_is); (case xTooManyn5d => k_is)
   (case xTooManyi1 => k_is); (case xTooManyi2 => k_is); (case xTooManyi3 => exact ⟨rfl, rfl, rfl, by decide +kernel, rfl, by decide +kernel, by decide +kernel⟩); (case xTooManyi4 => exact ⟨Or.inl rfl, Or.inl rfl⟩); (case xTooManyi5 => decide +kernel); (case xTooManyi6 => exact fun us hl => L3.len2 hl fun _ _ => rfl)
   (case xNoPaperh1 => k_is)
   (case xNoPaperh2 => k_is)
   (case xNoPaperh3 => k_is)
   (case xNoPaperh4 => k_is)
   (case xNoPaperh5 => k_is)
   (case xNoPaperh6 => k_is)
   (case xNoPaperh7 => k_is)
   (case xNoPaperh8 => k_is)
   (case xNoPaperh9 => k_is)
   (case xNoPaperh10 => k_is)
   (case xNoPaperh11 => k_is)
   (case xNoPaperh12 => k_is)
   (case xNoPaperh13 => k_is)
   (case xNoPaperh14 => k_is)
   (case xNoPaperh15 => exact L3.strKeys_of (by kernel_rfl))
   (case xNoPaperh16 => kernel_rfl)
   (case xNoPaperh17 => k_is)
   (case xNoPaperh18 => k_is)
   (case xNoPaperh19 => k_is)
   (case xNoPaperh20 => k_is)
   (case xNoPapern0a => decide +kernel); (case xNoPapern0b => k_is); (case xNoPapern0c => k_is); (case xNoPapern0d => k_is)
   (case xNoPapern1a => decide +kernel); (case xNoPapern1b => k_is); (case xNoPapern1c => k_is); (case xNoPapern1d => k_is)
   (case xNoPapern2a => decide +kernel); (case xNoPapern2b => k_is); (case xNoPapern2c => k_is); (case xNoPapern2d => k_is)
   (case xNoPapern3a => decide +kernel); (case xNoPapern3b => k_is); (case xNoPapern3c => k_is); (case xNoPapern3d => k_is)
   (case xNoPapern4a => decide +kernel); (case xNoPapern4b => k_is); (case xNoPapern4c => k_is); (case xNoPapern4d => k_is)
   (case xNoPapern5a => decide +kernel); (case xNoPapern5b => k_is); (case xNoPapern5c => k_is); (case xNoPapern5d => k_is)
   (case xNoPaperi1 => k_is); (case xNoPaperi2 => k_is); (case xNoPaperi3 => exact ⟨rfl, rfl, rfl, by decide +kernel, rfl, by decide +kernel, by decide +kernel⟩); (case xNoPaperi4 => exact ⟨Or.inl rfl, Or.inl rfl⟩); (case xNoPaperi5 => decide +kernel); (case xNoPaperi6 => exact fun us hl => L3.len2 hl fun _ _ => rfl)
   (case xNoGrammarh1 => k_is)
   (case xNoGrammarh2 => k_is)
   (case xNoGrammarh3 => k_is)
   (case xNoGrammarh4 => k_is)
   (case xNoGrammarh5 => k_is)
   (case xNoGrammarh6 => k_is)
   (case xNoGrammarh7 => k_is)
   (case xNoGrammarh8 => k_is)
   (case xNoGrammarh9 => k_is)
   (case xNoGrammarh10 => k_is)
   (case xNoGrammarh11 => k_is)
   (case xNoGrammarh12 => k_is)
   (case xNoGrammarh13 => k_is)
   (case xNoGrammarh14 => k_is)
   (case xNoGrammarh15 => exact L3.strKeys_of (by kernel_rfl))
   (case xNoGrammarh16 => kernel_rfl)
   (case xNoGrammarh17 => k_is)
   (case xNoGrammarh18 => k_is)
   (case xNoGrammarh19 => k_is)
   (case xNoGrammarh20 => k_is)
   (case xNoGrammarn0a => decide +kernel); (case xNoGrammarn0b => k_is); (case xNoGrammarn0c => k_is); (case xNoGrammarn0d => k_is)
   (case xNoGrammarn1a => decide +kernel); (case xNoGrammarn1b => k_is); (case xNoGrammarn1c => k_is); (case xNoGrammarn1d => k_is)
   (case xNoGrammarn2a => decide +kernel); (case xNoGrammarn2b => k_is); (case xNoGrammarn2c => k_is); (case xNoGrammarn2d => k_is)
   (case xNoGrammarn3a => decide +kernel); (case xNoGrammarn3b => k_is); (case xNoGrammarn3c => k_is); (case xNoGrammarn3d => k_is)
   (case xNoGrammarn4a => decide +kernel); (case xNoGrammarn4b => k_is); (case xNoGrammarn4c => k_is); (case xNoGrammarn4d => k_is)
   (case xNoGrammarn5a => decide +kernel); (case xNoGrammarn5b => k_is); (case xNoGrammarn5c => k_is); (case xNoGrammarn5d => k_is)
   (case xNoGrammari1 => k_is); (case xNoGrammari2 => k_is); (case xNoGrammari3 => exact ⟨rfl, rfl, rfl, by decide +kernel, rfl, by decide +kernel, by decide +kernel⟩); (case xNoGrammari4 => exact ⟨Or.inl rfl, Or.inl rfl⟩); (case xNoGrammari5 => decide +kernel); (case xNoGrammari6 => exact fun us hl => L3.len2 hl fun _ _ => rfl)
   (case xNoRowh1 => k_is)
   (case xNoRowh2 => k_is)
   (case xNoRowh3 => k_is)
   (case xNoRowh4 => k_is)
   (case xNoRowh5 => k_is)
   (case xNoRowh6 => k_is)
   (case xNoRowh7 => k_is)
   (case xNoRowh8 => k_is)
   (case xNoRowh9 => k_is)
   (case xNoRowh10 => k_is)
   (case xNoRowh12 => k_is)
   (case xNoRowh13 => k_is)
   (case xNoRowh14 => k_is)
   (case xNoRowh15 => exact L3.strKeys_of (by kernel_rfl))
   (case xNoRowh16 => kernel_rfl)
   (case xNoRowh17 => k_is)
   (case xNoRowh19 => k_is)
   (case xNoRown0a => decide +kernel); (case xNoRown0b => k_is); (case xNoRown0c => k_is); (case xNoRown0d => k_is)
   (case xNoRown1a => decide +kernel); (case xNoRown1b => k_is); (case xNoRown1c => k_is); (case xNoRown1d => k_is)
   (case xNoRown2a => decide +kernel); (case xNoRown2b => k_is); (case xNoRown2c => k_is); (case xNoRown2d => k_is)
   (case xNoRown3a => decide +kernel); (case xNoRown3b => k_is); (case xNoRown3c => k_is); (case xNoRown3d => k_is)
   (case xNoRown4a => decide +kernel); (case xNoRown4b => k_is); (case xNoRown4c => k_is); (case xNoRown4d => k_is)
   (case xNoRown5a => decide +kernel); (case xNoRown5b => k_is); (case xNoRown5c => k_is); (case xNoRown5d => k_is)

