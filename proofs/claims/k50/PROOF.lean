import PyProof.Rows.All
import Wide.All
import OpenK.AllK
import Wide.FinOn
import Lean
import PyProof.EqAt
import PyProof.EqKinds
import PyProof.TupleCall
import PyProof.StationsW
import PyProof.ExcClass2
import PyProof.ExcBaseAll.ValueError
import PyProof.InstStoreFacts
import PyProof.RulesAs
import PyProof.NsDelKeeps
import PyProof.P3Eq
import PyProof.P3In
import PyProof.ReprRoads
import PyProof.StrWalks
import PyProof.ListRange
import PyProof.ListStr
import PyProof.ConsumeWalk
import PyProof.MinMaxWalk
import PyProof.NeData
import PyProof.SliceStr2
import PyProof.Rows.SortStr
import PyProof.Rows.StrJoin2
import PyProof.Rows.SeqMore
import PyProof.SeqI3
import PyProof.StrLawsIn
import PyProof.ListMulRoad
import PyProof.StrOps2
import PyProof.ReprBulk
import PySem.Challenge.RW_lostpost_k50_trees
import PyProof.Rows.SortShellK
import KE.KSortTup
import PyProof.Rows.SetFrom
import PyProof.CollectIter
import PyProof.CollectStr
import PyProof.FactsAll.set
import KE.KDictOf
import PyProof.AttrMissHeap
import PyProof.DictWalks
import KE.KDictLaws
import PyProof.Draws
import KE.KRevIter
import PyProof.EnumStmt
import PyProof.JoinWalk
import KE.BitLaws
import PyProof.TupleOfSeq
import PySem.SetTable
import PyProof.SetScanFacts
import PyProof.TupleKey
import PyProof.IsRules
import PyProof.StrCalls6
import PyProof.StrLawsReplace
import PyProof.ExcAttrAll.ValueError
import PyProof.ExcArgs
import KE.KIsAll
import PyProof.DictRoadsH
import PyProof.ZipIter
import PyProof.EnumIter
import KE.KItemsList
import PyProof.Rows.SortRuns
set_option Elab.async false
set_option linter.all false
set_option maxRecDepth 100000
namespace L2
open PySem PySem.Spec PyProof.Rows
abbrev Key := Sum Int Str
def keyIs : Key → Value → Bool
 | .inl k, v => Value.isInt k v
 | .inr x, v => Value.isStrOf x v
def keyH (w : World) : Key → Int
 | .inl k => hashInt k
 | .inr x => hashStr w x
theorem keyIs_shape : ∀ {k : Key} {v : Value}, keyIs k v = true → (∃ i t, k = Sum.inl i ∧ v = Value.int i t) ∨ (∃ x t, k = Sum.inr x ∧ v = Value.str x t)
 | .inl i, v, h => by
   obtain ⟨t, e⟩ := Value.isInt_shape (k := i) (v := v) h
   exact .inl ⟨i, t, rfl, e⟩
 | .inr x, v, h => by
   obtain ⟨t, e⟩ := Value.isStrOf_shape (x := x) (v := v) h
   exact .inr ⟨x, t, rfl, e⟩
theorem keyIs_int (i : Int) (t : Tok) : keyIs (.inl i) (.int i t) = true := by simp [keyIs, Value.isInt]
theorem keyIs_str (x : Str) (t : Tok) : keyIs (.inr x) (.str x t) = true := by simp [keyIs, Value.isStrOf]
theorem key_ll (a b : Int) : decide ((Sum.inl a : Key) = Sum.inl b) = (a == b) := by
 by_cases e : a = b
 · subst e; simp
 · have h : ¬ (Sum.inl a : Key) = Sum.inl b := fun q => e (Sum.inl.inj q)
   rw [decide_eq_false h]
   exact (beq_eq_false_iff_ne.mpr e).symm
theorem key_rr (a b : Str) : decide ((Sum.inr a : Key) = Sum.inr b) = decide (a = b) := by
 by_cases e : a = b
 · subst e; simp
 · have h : ¬ (Sum.inr a : Key) = Sum.inr b := fun q => e (Sum.inr.inj q)
   rw [decide_eq_false h, decide_eq_false e]
theorem key_lr (a : Int) (b : Str) : decide ((Sum.inl a : Key) = Sum.inr b) = false := decide_eq_false (fun q => nomatch q)
theorem key_rl (a : Str) (b : Int) : decide ((Sum.inr a : Key) = Sum.inl b) = false := decide_eq_false (fun q => nomatch q)
def mixKind (prog : Program) (w : World) : PySem.KeyKind prog w Key where
 is := keyIs
 hash := keyH w
 inj := fun v a b ha hb => by
   rcases keyIs_shape ha with ⟨i, t, rfl, rfl⟩ | ⟨x, t, rfl, rfl⟩
   · rcases keyIs_shape hb with ⟨j, u, rfl, e⟩ | ⟨y, u, rfl, e⟩
     · injection e with e1 _; rw [e1]
     · exact nomatch e
   · rcases keyIs_shape hb with ⟨j, u, rfl, e⟩ | ⟨y, u, rfl, e⟩
     · exact nomatch e
     · injection e with e1 _; rw [e1]
 byValue := fun k v h => by
   rcases keyIs_shape h with ⟨i, t, rfl, rfl⟩ | ⟨x, t, rfl, rfl⟩ <;> rfl
 pyHash := fun hv h => by
   rcases keyIs_shape hv with ⟨i, t, rfl, rfl⟩ | ⟨x, t, rfl, rfl⟩
   · exact wpAny_pyHash_int h
   · exact wpAny_pyHash_str h
 eqBool := fun hu hv h => by
   rcases keyIs_shape hu with ⟨i, t, rfl, rfl⟩ | ⟨x, t, rfl, rfl⟩
   · rcases keyIs_shape hv with ⟨j, u, rfl, rfl⟩ | ⟨y, u, rfl, rfl⟩
     · rw [key_ll] at h; exact wpAny_eqBool_int h
     · rw [key_lr] at h; exact SeqAt.EqAt.int_str i t y u _ _ _ _ h
   · rcases keyIs_shape hv with ⟨j, u, rfl, rfl⟩ | ⟨y, u, rfl, rfl⟩
     · rw [key_rl] at h; exact SeqAt.EqAt.str_int x t j u _ _ _ _ h
     · rw [key_rr] at h; exact wpAny_eqBool_str h
 «strs» := fun k x t v h => by
   rcases keyIs_shape h with ⟨i, u, rfl, e⟩ | ⟨y, u, rfl, e⟩
   · exact nomatch e
   · injection e with e1 _
     subst e1
     cases v <;> rfl
theorem mixKind_int (prog : Program) (w : World) (i : Int) (t : Tok) : (mixKind prog w).is (.inl i) (.int i t) = true := keyIs_int i t
theorem mixKind_str (prog : Program) (w : World) (x : Str) (t : Tok) : (mixKind prog w).is (.inr x) (.str x t) = true := keyIs_str x t
end L2
namespace L2
open PySem PySem.Spec PyProof.Rows
inductive V where
 | non | bl (b : Bool) | int (i : Int) | str (x : Str) | byt (b : Array UInt8) | flt (b : UInt64) | ref (a : Addr) | ty (n : String)
 deriving DecidableEq
def RelV : V → Value → Prop
 | .non, u => u = Value.none
 | .bl b, u => u = Value.bool b
 | .int i, u => ∃ t, u = Value.int i t
 | .str x, u => ∃ t, u = Value.str x t
 | .byt b, u => ∃ t, u = Value.bytes b t
 | .flt b, u => ∃ t, u = Value.float b t
 | .ref a, u => u = Value.ref a
 | .ty n, u => u = Value.type n
abbrev Vals : List V → List Value → Prop := Paired RelV
theorem Vals.length {xs : List V} {us : List Value} (r : Vals xs us) : xs.length = us.length := Paired.length r
theorem Vals.get : ∀ {xs : List V} {us : List Value} {i : Nat} {x : V}, Vals xs us → xs[i]? = some x → ∃ u, us[i]? = some u ∧ RelV x u
 | _, _, _, _, .nil, e => by simp at e
 | _, _, 0, _, .cons r _, e => by simp at e; subst e; exact ⟨_, rfl, r⟩
 | _, _, i + 1, x, .cons _ t, e => by
   obtain ⟨u, h1, h2⟩ := Vals.get (i := i) (x := x) t (by simpa using e)
   exact ⟨u, by simpa using h1, h2⟩
theorem Vals.append : ∀ {xs ys : List V} {us ws : List Value}, Vals xs us → Vals ys ws → Vals (xs ++ ys) (us ++ ws)
 | _, _, _, _, .nil, s => s
 | _, _, _, _, .cons r t, s => .cons r (Vals.append t s)
theorem Vals.take : ∀ {xs : List V} {us : List Value} (n : Nat), Vals xs us → Vals (xs.take n) (us.take n)
 | _, _, 0, _ => .nil
 | _, _, _ + 1, .nil => .nil
 | _, _, n + 1, .cons r t => .cons r (Vals.take n t)
theorem Vals.drop : ∀ {xs : List V} {us : List Value} (n : Nat), Vals xs us → Vals (xs.drop n) (us.drop n)
 | _, _, 0, r => r
 | _, _, _ + 1, .nil => .nil
 | _, _, n + 1, .cons _ t => Vals.drop n t
def RelO : Option V → Option Value → Prop
 | some v, some u => RelV v u
 | none, none => True
 | _, _ => False
def KV {κ : Type} : List (κ × V) → List (κ × Value) → Prop := Paired fun (p : κ × V) (q : κ × Value) => p.1 = q.1 ∧ RelV p.2 q.2
def kV : Key → V
 | .inl i => .int i
 | .inr x => .str x
inductive HO where
   | lst (xs : List V)
   | tup (xs : List V)
   | dK (kvs : List (Key × V)) | dT (kvs : List (List Key × V))
   | set (S : Int → Bool) (n : Nat)
   | ins (C dx : Addr) (fs : List (Str × V))
   | own (x : Addr)
   | xd (fs : List (Str × V))
   | met (f x : Addr)
   | rng (lo hi : Int)
   | frz (o : Obj) (u : HO)
   | tbl (ps : Array Value)
   | ext (φ : Heap → Prop)
abbrev Hp := Addr → Option HO
def upd (H : Hp) (a : Addr) (o : HO) : Hp := fun b => if b = a then some o else H b
theorem upd_same {H : Hp} {a : Addr} {o : HO} : upd H a o a = some o := by unfold upd; rw [if_pos rfl]
theorem upd_ne {H : Hp} {a b : Addr} {o : HO} (h : b ≠ a) : upd H a o b = H b := by unfold upd; rw [if_neg h]
theorem ne_of {H : Hp} {a b : Addr} {o u : HO} (h : H a = some o) (h' : H b = some u) (d : o ≠ u) : a ≠ b := by
 intro e; subst e; rw [h] at h'; exact d (Option.some.inj h')
theorem ne_of_none {H : Hp} {a b : Addr} {o : HO} (h : H a = some o) (h' : H b = none) : a ≠ b := by
 intro e; subst e; rw [h] at h'; cases h'
section
variable (P : Program) (w : World)
def ObjOk (H : Hp) (h : Heap) (a : Addr) : HO → Prop
 | .lst xs => xs.length ≤ sizeLine ∧ ∃ (its : List Value) (n : Nat), Vals xs its ∧ h.get? a = some { cls := .type "list", data := .seq its.toArray n }
 | .tup xs => xs.length ≤ sizeLine ∧ ∃ its : List Value, Vals xs its ∧ IsTup h a its.toArray
 | .dK kvs => kvs.length ≤ sizeLine ∧ (a == sysModules) = false ∧ ∃ vs, KV kvs vs ∧ h.DictOf (mixKind P w) a vs
 | .dT kvs => kvs.length ≤ sizeLine ∧ (a == sysModules) = false ∧ ∃ xs : List (List Key × Addr × Value),
     Paired (fun (p : List Key × V) (q : List Key × Addr × Value) => p.1 = q.1 ∧ H q.2.1 = some (.tup (p.1.map kV)) ∧ RelV p.2 q.2.2) kvs xs ∧
     ∃ o es ep, h.get? a = some o ∧ o.ExactDict ∧ o.data = .dict es ep ∧ es.toList = xs.map (entryOfKey (tupleKind (mixKind P w))) ∧ (xs.map (·.1)).Nodup
 | .set S n => h.SetOf (intKind P w) a S n
 | .ins C dx fs => H dx = some (.own a) ∧ fs.length ≤ 1000 ∧ dx ≠ a ∧ h.get? a = some (PySem.W.instObj C dx) ∧
     ∃ mA, h.Ns1 dx mA ∧ (∀ f, RelO (fs.lookup f) (mA f)) ∧ PySem.Within mA (fs.map (·.1))
 | .own _ => ∃ o, h.get? a = some o
 | .xd fs => ∃ mA, h.Ns1 a mA ∧ ∀ f, RelO (fs.lookup f) (mA f)
 | .rng lo hi => ∃ t u v, h.get? a = some { cls := .type "range", data := .fields #[.int lo t, .int hi u, .int 1 v] }
 | .frz o u => h.get? a = some o ∧ ObjOk H h a u
 | .tbl ps => h.get? a = some { cls := .none, data := .fields ps }
 | .met f x => h.get? a = some (PySem.W.methodObj (.ref f) (.ref x))
 | .ext φ => φ h ∧ (∃ o, h.get? a = some o) ∧ ∀ h1 h2 : Heap, φ h1 → (∀ o, h1.get? a = some o → h2.get? a = some o) → φ h2
def HOk (H : Hp) (h : Heap) : Prop := ∀ a o, H a = some o → ObjOk P w H h a o
end
section
variable {P : Program} {w : World} {H H' : Hp} {h h' : Heap} {a : Addr} {o : HO}
theorem ObjOk.lt (x : ObjOk P w H h a o) : a < h.objs.size := by
 cases o with
 | lst xs => obtain ⟨_, _, _, _, e⟩ := x; exact Heap.lt_size e
 | tup xs => obtain ⟨_, _, _, p⟩ := x; exact p.lt
 | dK kvs => obtain ⟨_, _, _, _, o, _, _, e, _⟩ := x; exact Heap.lt_size e
 | dT kvs => obtain ⟨_, _, _, _, o, _, _, e, _⟩ := x; exact Heap.lt_size e
 | set S n => obtain ⟨o, _, _, _, e, _⟩ := x; exact Heap.lt_size e
 | ins C dx fs => obtain ⟨_, _, _, e, _⟩ := x; exact Heap.lt_size e
 | own y => obtain ⟨_, e⟩ := x; exact Heap.lt_size e
 | xd fs => obtain ⟨_, ⟨_, _, _, e, _⟩, _⟩ := x; exact Heap.lt_size e
 | rng lo hi => obtain ⟨_, _, _, e⟩ := x; exact Heap.lt_size e
 | frz ob u => obtain ⟨e, _⟩ := x; exact Heap.lt_size e
 | tbl ps => exact Heap.lt_size (show h.get? a = some _ from x)
 | met f y => exact Heap.lt_size (show h.get? a = some _ from x)
 | ext φ => obtain ⟨_, ⟨_, e⟩, _⟩ := x; exact Heap.lt_size e
theorem Paired.mapP {α β : Type} {F G : α → β → Prop} : ∀ {l₁ : List α} {l₂ : List β}, Paired F l₁ l₂ → (∀ a b, F a b → G a b) → Paired G l₁ l₂
 | _, _, .nil, _ => .nil
 | _, _, .cons r t, f => .cons (f _ _ r) (Paired.mapP t f)
theorem ObjOk.stay (x : ObjOk P w H h a o) (k : ∀ b u, (b = a ∨ H b = some (.own a)) → h.get? b = some u → h'.get? b = some u)
   (ho : ∀ b, H b = some (.own a) → H' b = some (.own a)) (ht : ∀ b xs, H b = some (.tup xs) → H' b = some (.tup xs)) : ObjOk P w H' h' a o := by
 induction o with
 | lst xs => obtain ⟨z, its, n, r, e⟩ := x; exact ⟨z, its, n, r, k _ _ (.inl rfl) e⟩
 | tup xs => obtain ⟨z, its, r, ob, e, c⟩ := x; exact ⟨z, its, r, ob, k _ _ (.inl rfl) e, c⟩
 | dK kvs => obtain ⟨z, y, vs, r, ob, es, ep, e, c⟩ := x; exact ⟨z, y, vs, r, ob, es, ep, k _ _ (.inl rfl) e, c⟩
 | dT kvs =>
   obtain ⟨z, y, xs, r, ob, es, ep, e, c⟩ := x
   exact ⟨z, y, xs, Paired.mapP r fun p q z => ⟨z.1, ht _ _ z.2.1, z.2.2⟩, ob, es, ep, k _ _ (.inl rfl) e, c⟩
 | set S n => obtain ⟨ob, es, ep, t, e, c⟩ := x; exact ⟨ob, es, ep, t, k _ _ (.inl rfl) e, c⟩
 | ins C dx fs =>
   obtain ⟨d, z, ne, e, mA, ⟨od, es, ep, e2, c⟩, r⟩ := x
   exact ⟨ho _ d, z, ne, k _ _ (.inl rfl) e, mA, ⟨od, es, ep, k _ _ (.inr d) e2, c⟩, r⟩
 | own y => obtain ⟨ob, e⟩ := x; exact ⟨ob, k _ _ (.inl rfl) e⟩
 | xd fs => obtain ⟨mA, ⟨od, es, ep, e, c⟩, r⟩ := x; exact ⟨mA, ⟨od, es, ep, k _ _ (.inl rfl) e, c⟩, r⟩
 | rng lo hi => obtain ⟨t, u, v, e⟩ := x; exact ⟨t, u, v, k _ _ (.inl rfl) e⟩
 | frz ob u ih => obtain ⟨e, q⟩ := x; exact ⟨k _ _ (.inl rfl) e, ih q⟩
 | tbl ps =>
   have e : h.get? a = some { cls := .none, data := .fields ps } := x
   show h'.get? a = some { cls := .none, data := .fields ps }
   exact k a _ (.inl rfl) e
 | met f y =>
   have e : h.get? a = some (PySem.W.methodObj (.ref f) (.ref y)) := x
   show h'.get? a = some (PySem.W.methodObj (.ref f) (.ref y))
   exact k a _ (.inl rfl) e
 | ext φ => obtain ⟨p, ⟨o, e⟩, st⟩ := x; exact ⟨st _ _ p fun o q => k _ _ (.inl rfl) q, ⟨o, k _ _ (.inl rfl) e⟩, st⟩
theorem HOk.lt (x : HOk P w H h) (e : H a = some o) : a < h.objs.size := (x a o e).lt
theorem HOk.fresh (x : HOk P w H h) (e : h.objs.size ≤ a) : H a = none := by
 cases q : H a with
 | none => rfl
 | some u => exact absurd (Nat.lt_of_lt_of_le (x.lt q) e) (Nat.lt_irrefl _)
theorem HOk.kept (x : HOk P w H h) (k : ∀ b u, h.get? b = some u → h'.get? b = some u) : HOk P w H h' := fun a o e =>
 (x a o e).stay (fun b u _ q => k b u q) (fun _ q => q) fun _ _ q => q
theorem HOk.laid (x : HOk P w H h) (k : ∀ b u, h.get? b = some u → h'.get? b = some u) (hp : h.objs.size ≤ a) (new : ObjOk P w (upd H a o) h' a o) : HOk P w (upd H a o) h' := fun b u e => by
 have hn := x.fresh hp
 by_cases hb : b = a
 · subst hb; rw [upd_same] at e; cases e; exact new
 · rw [upd_ne hb] at e
   exact (x b u e).stay (fun c v _ q => k c v q) (fun c q => by rw [upd_ne (ne_of_none q hn)]; exact q) fun c xs q => by rw [upd_ne (ne_of_none q hn)]; exact q
end
def Rd (H : Hp) (a : Addr) (u : HO) : Prop := H a = some u ∨ ∃ o, H a = some (.frz o u)
theorem Rd.ok {P : Program} {w : World} {H : Hp} {h : Heap} {a : Addr} {u : HO} (r : Rd H a u) (x : HOk P w H h) : ObjOk P w H h a u := by
 rcases r with r | ⟨o, r⟩
 · exact x a u r
 · obtain ⟨_, q⟩ := x a _ r
   exact q
def Mut : Option HO → Prop
 | some (.lst _) => True
 | some (.dK _) => True
 | some (.dT _) => True
 | some (.set _ _) => True
 | some (.ins _ _ _) => True
 | some (.ext _) => True
 | _ => False
section
variable {P : Program} {w : World} {H : Hp} {h h' : Heap} {x e : Addr} {o' : HO}
theorem HOk.write (ok : HOk P w H h) (mu : Mut (H x)) (he : e = x ∨ H e = some (.own x)) (k : ∀ b u, b ≠ e → h.get? b = some u → h'.get? b = some u) (heo : ∃ u, h'.get? e = some u)
   (new : ObjOk P w (upd H x o') h' x o') : HOk P w (upd H x o') h' := fun b u q => by
 have nown : ∀ c y, H c = some (.own y) → c ≠ x := fun c y r z => by subst z; rw [r] at mu; exact mu
 have ntup : ∀ c xs, H c = some (.tup xs) → c ≠ x := fun c xs r z => by subst z; rw [r] at mu; exact mu
 by_cases hb : b = x
 · subst hb; rw [upd_same] at q; cases q; exact new
 · rw [upd_ne hb] at q
   by_cases hbe : b = e
   · have q' : H b = some (.own x) := by
       rcases he with z | z
       · exact absurd (hbe.trans z) hb
       · rw [hbe]; exact z
     rw [q] at q'; cases q'
     obtain ⟨v, hv⟩ := heo
     exact ⟨v, by rw [hbe]; exact hv⟩
   · refine (ok b u q).stay (fun c v hc r => k c v ?_ r) (fun c r => by rw [upd_ne (nown c b r)]; exact r) fun c xs r => by rw [upd_ne (ntup c xs r)]; exact r
     rcases hc with rfl | hc
     · exact hbe
     · rintro rfl
       rcases he with z | z
       · exact nown c b hc z
       · rw [hc] at z; cases z; exact hb rfl
end
structure Un (fs ex : List Addr) (H H' : Hp) (h h' : Heap) : Prop where
 keep : ∀ b o, h.get? b = some o → H b = none → b ∉ fs → b ∉ ex → h'.get? b = some o
 slot : ∀ b o, h.get? b = some o → H b = none → b ∈ fs → b ∉ ex → ∃ sl, h'.get? b = some { o with slots := sl }
 free : ∀ b o, h.get? b = some o → H b = none → b ∉ ex → H' b = none
 there : ∀ b o, h.get? b = some o → b ∉ ex → ∃ o', h'.get? b = some o'
 tups : ∀ b xs, H b = some (.tup xs) → H' b = some (.tup xs)
 frzs : ∀ b o u, H b = some (.frz o u) → H' b = some (.frz o u)
 tbls : ∀ b ps, H b = some (.tbl ps) → ∃ more, H' b = some (.tbl (ps ++ more))
section
variable {fs fs' ex ex' : List Addr} {H H1 H2 : Hp} {h h1 h2 h' : Heap} {a x e : Addr} {o : HO}
theorem Un.any (u : Un fs ex H H1 h h1) {b : Addr} {ob : Obj} (q : h.get? b = some ob) (n : H b = none) (hx : b ∉ ex) : ∃ sl, h1.get? b = some { ob with slots := sl } := by
 by_cases hb : b ∈ fs
 · exact u.slot b ob q n hb hx
 · exact ⟨ob.slots, u.keep b ob q n hb hx⟩
theorem Un.kept (k : ∀ b u, h.get? b = some u → h'.get? b = some u) : Un fs ex H H h h' :=
 ⟨fun b ob q _ _ _ => k b ob q, fun b ob q _ _ _ => ⟨ob.slots, k b ob q⟩, fun _ _ _ n _ => n, fun b ob q _ => ⟨ob, k b ob q⟩, fun _ _ q => q, fun _ _ _ q => q, fun _ ps q => ⟨#[], by rw [q]; simp⟩⟩
theorem Un.refl : Un fs ex H H h h := Un.kept fun _ _ q => q
theorem Un.laid (k : ∀ b u, h.get? b = some u → h'.get? b = some u) (hp : h.objs.size ≤ a) (hn : H a = none) : Un fs ex H (upd H a o) h h' where
 keep := fun b u q _ _ _ => k b u q
 slot := fun b u q _ _ _ => ⟨u.slots, k b u q⟩
 free := fun b u q n _ => by rw [upd_ne (Nat.ne_of_lt (Nat.lt_of_lt_of_le (Heap.lt_size q) hp))]; exact n
 there := fun b u q _ => ⟨u, k b u q⟩
 tups := fun b xs q => by rw [upd_ne (ne_of_none q hn)]; exact q
 frzs := fun b u xs q => by rw [upd_ne (ne_of_none q hn)]; exact q
 tbls := fun b ps q => ⟨#[], by rw [upd_ne (ne_of_none q hn), q]; simp⟩
theorem Un.write (mu : Mut (H x)) (he : e = x ∨ H e = some (.own x)) (k : ∀ b u, b ≠ e → h.get? b = some u → h'.get? b = some u) (heo : ∃ u, h'.get? e = some u) : Un fs ex H (upd H x o) h h' := by
 have hx : ∀ b, H b = none → b ≠ x := fun b n z => by subst z; rw [n] at mu; exact mu
 have hb : ∀ b, H b = none → b ≠ e := fun b n z => by
   subst z
   rcases he with r | r
   · exact hx b n r
   · rw [n] at r; cases r
 have hm : ∀ b u, H b = some u → ¬ Mut (some u) → b ≠ x := fun b u q nm z => by subst z; rw [q] at mu; exact nm mu
 refine ⟨fun b u q n _ _ => k b u (hb b n) q, fun b u q n _ _ => ⟨u.slots, k b u (hb b n) q⟩, fun b u q n _ => by rw [upd_ne (hx b n)]; exact n, fun b u q _ => ?_,
   fun b xs q => by rw [upd_ne (hm b _ q fun z => z)]; exact q, fun b u xs q => by rw [upd_ne (hm b _ q fun z => z)]; exact q, fun b ps q => ⟨#[], by rw [upd_ne (hm b _ q fun z => z), q]; simp⟩⟩
 by_cases hbe : b = e
 · subst hbe; exact heo
 · exact ⟨u, k b u hbe q⟩
end
def trk (h : Heap) (H : Hp) : List Addr := (List.range h.objs.size).filter fun a => (H a).isSome
def hidT (h : Heap) (H : Hp) : Heap := PySem.W.hideAll h (trk h H)
theorem hidT_size (h : Heap) (H : Hp) : (hidT h H).objs.size = h.objs.size := PySem.W.hideAll_size _ _
theorem hidT_get {h : Heap} {H : Hp} {b : Addr} {o : Obj} (e : h.get? b = some o) (n : H b = none) : (hidT h H).get? b = some o :=
 PySem.W.hideAll_get _ e fun hm => by
   have q : (H b).isSome = true := (List.mem_filter.mp hm).2
   rw [n] at q; simp at q
theorem of_hidT {h : Heap} {H : Hp} {b : Addr} {o : Obj} (e : (hidT h H).get? b = some o) : h.get? b = some o ∧ H b = none := by
 have e' : h.get? b = some o := PySem.W.of_hideAll (trk h H) e
 refine ⟨e', ?_⟩
 cases q : H b with
 | none => rfl
 | some x =>
   have hm : b ∈ trk h H := List.mem_filter.mpr ⟨List.mem_range.mpr (Heap.lt_size e'), by simp [q]⟩
   have z : (hidT h H).get? b = none := PySem.W.hideAll_none (trk h H) hm
   rw [z] at e; cases e
end L2
namespace L2
open PySem PySem.Spec PyProof.Rows
structure Mod (K : PySem.W.Frag) (mg : Str → Option Value) (base : Heap) : Prop where
 kin : K.In base
 glob : base.Ns mainGlobals mg
 blt : ∃ mb, base.Ns builtinsNs mb ∧ ∀ x : Str, x ≠ "__name__" → mb x = bootBuiltins x
 nolimit : base.NoLimit
structure Cx where
 prog : Program
 w : World
 K : PySem.W.Frag
 mg : Str → Option Value
 base : Heap
 A : Around
 N : List Str
 s₀ : Shared
 H₀ : Hp
 env : Env
 outer : List Env
 stack : List Env
 ex : List Addr
 fn : Str → Bool
 calm : Bool
 pn : List (Addr × Obj)
 xe : Value → Shared → Prop
def frs (l : List Env) : List Addr := l.filterMap (·.frame)
abbrev Cx.fs (X : Cx) : List Addr := frs X.outer
def Vis (sc : Scope) (x : Str) : Prop := sc.names.lookup x = some .local ∨ sc.names.lookup x = some .cell ∨ sc.names.lookup x = some .free
def Loc (sc : Scope) (x : Str) : Prop := sc.names.lookup x = some .local ∨ sc.names.lookup x = some .cell
def Look (env : Env) (h : Heap) (m : Str → Option Value) (x : Str) (u : Value) : Prop :=
 (env.kindOf x = some .local ∧ m x = some u) ∨ ((env.kindOf x = some .cell ∨ env.kindOf x = some .free) ∧ ∃ c, env.cells.lookup x = some c ∧ h.IsCell c (some u))
structure Cx.Ok (X : Cx) : Prop where
 mod : Mod X.K X.mg X.base
 kind : X.env.scope.kind = .function
 glob : X.env.globals = mainGlobals
 blt : X.env.builtins = builtinsNs
 above : X.s₀.heap.objs.size ≤ X.env.locals
 inj : ∀ x y c, X.env.cells.lookup x = some c → X.env.cells.lookup y = some c → x = y
 has : ∀ x, (X.env.kindOf x = some .cell ∨ X.env.kindOf x = some .free) → ∃ c, X.env.cells.lookup x = some c
 cab : ∀ x c, X.fn x = true → X.env.cells.lookup x = some c → X.s₀.heap.objs.size ≤ c
 hd : X.calm = true → X.A.handled = none
 frames : X.A.frames = some X.stack
 stk : X.stack = X.outer ∨ (X.stack = X.env :: X.outer ∧ X.env.frame = some X.env.locals)
 exf : ∀ b ∈ X.ex, b ≠ X.env.locals ∧ ∀ x c, X.env.cells.lookup x = some c → c ≠ b
 bs : ∀ b o, X.base.get? b = some o → X.s₀.heap.get? b = some o ∧ X.H₀ b = none
 bsz : X.base.objs.size ≤ X.s₀.heap.objs.size
 noex : ∀ b o, X.base.get? b = some o → b ∉ X.ex
 exfs : ∀ b ∈ X.ex, b ∉ X.fs
 funs : X.s₀.heap.FunFrames X.base X.outer
 frf : ∀ b ∈ X.fs, X.H₀ b = none
structure Inv (X : Cx) (pins : List (Addr × Obj)) (σ : List (Option V)) (H : Hp) (s : Shared) : Prop where
 ok : X.Ok
 os : s.os = X.s₀.os
 bare : AllBare s.gens
 base : Un X.fs X.ex X.H₀ H X.s₀.heap s.heap
 loc : ∃ m, s.heap.Ns X.env.locals m ∧ ∀ (i : Nat) (x : Str) (v : V), X.N[i]? = some x → σ[i]? = some (some v) → Vis X.env.scope x → ∃ u, RelV v u ∧ Look X.env s.heap m x u
 cell : ∀ x c, X.env.cells.lookup x = some c → ∃ v, s.heap.IsCell c v
 free : H X.env.locals = none
 freeC : ∀ x c, X.env.cells.lookup x = some c → H c = none
 pin : ∀ p ∈ X.pn ++ pins, s.heap.get? p.1 = some p.2 ∧ H p.1 = none ∧ p.1 ≠ X.env.locals ∧ p.1 ∉ X.fs ∧ ∀ v, p.2.data ≠ .cell v
 hok : HOk X.prog X.w H s.heap
 len : σ.length = X.N.length
section
variable {X : Cx} {pins : List (Addr × Obj)} {σ : List (Option V)} {H H' : Hp} {s : Shared} {h' : Heap}
theorem Cx.Ok.nofr (ok : X.Ok) {b : Addr} {o : Obj} (e : X.base.get? b = some o) : b ∉ X.fs := fun hb => by
 have := (ok.funs.mem hb).1
 rw [e] at this; cases this
theorem Inv.bs (I : Inv X pins σ H s) : ∀ b o, X.base.get? b = some o → s.heap.get? b = some o ∧ H b = none := fun b o e =>
 ⟨I.base.keep b o (I.ok.bs b o e).1 (I.ok.bs b o e).2 (I.ok.nofr e) (I.ok.noex b o e), I.base.free b o (I.ok.bs b o e).1 (I.ok.bs b o e).2 (I.ok.noex b o e)⟩
theorem Inv.bk (I : Inv X pins σ H s) : ∀ b o, X.base.get? b = some o → s.heap.get? b = some o := fun b o e => (I.bs b o e).1
theorem Inv.mod (I : Inv X pins σ H s) : Mod X.K X.mg X.base := I.ok.mod
theorem Inv.kIn (I : Inv X pins σ H s) : X.K.In s.heap := I.ok.mod.kin.keeps I.bk
theorem Inv.lt (I : Inv X pins σ H s) : X.env.locals < s.heap.objs.size := let ⟨_, hn, _⟩ := I.loc; hn.lt
theorem Inv.sz (I : Inv X pins σ H s) : X.s₀.heap.objs.size ≤ s.heap.objs.size := Nat.le_trans I.ok.above (Nat.le_of_lt I.lt)
theorem Inv.nofs (I : Inv X pins σ H s) {a : Addr} (h : s.heap.objs.size ≤ a) : a ∉ X.fs := fun hb => by
 obtain ⟨_, o, ho, _⟩ := I.ok.funs.mem hb
 exact absurd (Nat.lt_of_lt_of_le (Heap.lt_size ho) (Nat.le_trans I.sz h)) (Nat.lt_irrefl _)
theorem Inv.cne (I : Inv X pins σ H s) : ∀ x c, X.env.cells.lookup x = some c → c ≠ X.env.locals := fun x c e z => by
 obtain ⟨v, o, ho, hd⟩ := I.cell x c e
 obtain ⟨m, ⟨o', es, ep, ho', hd', _⟩, _⟩ := I.loc
 rw [z, ho'] at ho; cases ho; rw [hd'] at hd; cases hd
theorem Inv.funs (I : Inv X pins σ H s) : s.heap.FunFrames X.base X.outer := by
 have all : ∀ (l : List Env), (∀ b ∈ frs l, b ∈ X.fs) → X.s₀.heap.FunFrames X.base l → s.heap.FunFrames X.base l := by
   intro l
   induction l with
   | nil => intro _ _; trivial
   | cons env r ih =>
     intro hs hl
     obtain ⟨hk, ⟨L, o, hf, hn, ho, hd⟩, hr⟩ := hl
     have hL : L ∈ X.fs := hs L (by unfold frs; rw [List.filterMap_cons, hf]; exact List.mem_cons_self)
     obtain ⟨sl, e⟩ := I.base.slot L o ho (I.ok.frf L hL) hL fun z => I.ok.exfs L z hL
     exact ⟨hk, ⟨L, _, hf, hn, e, hd⟩, ih (fun b hb => hs b (by unfold frs; rw [List.filterMap_cons, hf]; exact List.mem_cons_of_mem _ hb)) hr⟩
 exact all X.outer (fun _ hb => hb) I.ok.funs
theorem Inv.stack (I : Inv X pins σ H s) : s.heap.FunFrames X.base X.stack := by
 rcases I.ok.stk with e | ⟨e, hf⟩
 · rw [e]; exact I.funs
 · rw [e]
   obtain ⟨m, hn, _⟩ := I.loc
   refine .cons (by rw [I.ok.kind]; decide) hf hn ?_ I.funs
   exact Heap.get?_none_of_le (Nat.le_trans I.ok.bsz I.ok.above)
theorem Inv.stkSub (I : Inv X pins σ H s) : ∀ b ∈ frs X.stack, b ∈ X.env.locals :: X.fs := fun b hb => by
 rcases I.ok.stk with e | ⟨e, hf⟩
 · rw [e] at hb; exact List.mem_cons_of_mem _ hb
 · rw [e] at hb
   unfold frs at hb
   rw [List.filterMap_cons, hf] at hb
   exact hb
theorem Inv.stkFree (I : Inv X pins σ H s) : ∀ b ∈ frs X.stack, H b = none := fun b hb => by
 rcases List.mem_cons.mp (I.stkSub b hb) with e | hb
 · rw [e]; exact I.free
 · obtain ⟨_, o, ho, _⟩ := I.ok.funs.mem hb
   exact I.base.free b o ho (I.ok.frf b hb) fun z => I.ok.exfs b z hb
theorem Inv.step {g' : Array GenState} {t' : Nat} {d' : Drawn} {ch : List Addr} (I : Inv X pins σ H s)
   (hch : ∀ b ∈ ch, (b ∈ X.ex ∨ X.s₀.heap.objs.size ≤ b) ∧ b ≠ X.env.locals ∧ (∀ x c, X.env.cells.lookup x = some c → c ≠ b) ∧ ∀ p ∈ X.pn ++ pins, p.1 ≠ b)
   (keep : ∀ b o, b ≠ X.env.locals → b ∉ X.fs → b ∉ ch → s.heap.get? b = some o → H b = none → h'.get? b = some o)
   (slot : ∀ b o, b ≠ X.env.locals → b ∈ X.fs → b ∉ ch → s.heap.get? b = some o → H b = none → ∃ sl, h'.get? b = some { o with slots := sl }) (free : ∀ b o, b ∉ ch → s.heap.get? b = some o → H b = none → H' b = none)
   (there : ∀ b o, b ∉ ch → s.heap.get? b = some o → ∃ o', h'.get? b = some o')
   (tups : ∀ b xs, H b = some (.tup xs) → H' b = some (.tup xs)) (frzs : ∀ b o u, H b = some (.frz o u) → H' b = some (.frz o u)) (tbls : ∀ b ps, H b = some (.tbl ps) → ∃ more, H' b = some (.tbl (ps ++ more)))
   (ns : ∀ m, s.heap.Ns X.env.locals m → h'.Ns X.env.locals m) (hok : HOk X.prog X.w H' h') (hg : AllBare g') :
   Inv X pins σ H' { s with heap := h', gens := g', drawn := d', toks := t' } := by
 have neL : ∀ b o, X.s₀.heap.get? b = some o → b ≠ X.env.locals := fun b o e => Nat.ne_of_lt (Nat.lt_of_lt_of_le (Heap.lt_size e) I.ok.above)
 have neC : ∀ b o, X.s₀.heap.get? b = some o → b ∉ X.ex → b ∉ ch := fun b o e hx hb => by
   rcases (hch b hb).1 with z | z
   · exact hx z
   · exact absurd (Nat.lt_of_lt_of_le (Heap.lt_size e) z) (Nat.lt_irrefl _)
 have cellK : ∀ x c, X.env.cells.lookup x = some c → ∀ v, s.heap.IsCell c v → h'.IsCell c v := fun x c e v ⟨o, ho, hd⟩ => by
   have nch : c ∉ ch := fun z => (hch c z).2.2.1 x c e rfl
   by_cases hc : c ∈ X.fs
   · obtain ⟨sl, q⟩ := slot c o (I.cne x c e) hc nch ho (I.freeC x c e)
     exact ⟨_, q, hd⟩
   · exact ⟨o, keep c o (I.cne x c e) hc nch ho (I.freeC x c e), hd⟩
 refine ⟨I.ok, I.os, hg, ⟨fun b o e n hb hx => ?_, fun b o e n hb hx => ?_, fun b o e n hx => ?_, fun b o e hx => ?_, fun b xs e => tups b xs (I.base.tups b xs e), fun b o xs e => frzs b o xs (I.base.frzs b o xs e), fun b ps e => ?_⟩, ?_, fun x c e => ?_, ?_, fun x c e => ?_, fun p hp => ?_, hok, I.len⟩
 · exact keep b o (neL b o e) hb (neC b o e hx) (I.base.keep b o e n hb hx) (I.base.free b o e n hx)
 · obtain ⟨sl, e1⟩ := I.base.slot b o e n hb hx
   obtain ⟨sl', e2⟩ := slot b _ (neL b o e) hb (neC b o e hx) e1 (I.base.free b o e n hx)
   exact ⟨sl', e2⟩
 · obtain ⟨o', e1⟩ := I.base.there b o e hx
   exact free b o' (neC b o e hx) e1 (I.base.free b o e n hx)
 · obtain ⟨o', e1⟩ := I.base.there b o e hx
   exact there b o' (neC b o e hx) e1
 · obtain ⟨m1, e1⟩ := I.base.tbls b ps e
   obtain ⟨m2, e2⟩ := tbls b _ e1
   exact ⟨m1 ++ m2, by rw [e2, Array.append_assoc]⟩
 · obtain ⟨m, hn, hl⟩ := I.loc
   refine ⟨m, ns m hn, fun i x v e1 e2 e3 => ?_⟩
   obtain ⟨u, r, l⟩ := hl i x v e1 e2 e3
   refine ⟨u, r, ?_⟩
   rcases l with l | ⟨k, c, e, z⟩
   · exact .inl l
   · exact .inr ⟨k, c, e, cellK x c e _ z⟩
 · obtain ⟨v, z⟩ := I.cell x c e
   exact ⟨v, cellK x c e v z⟩
 · obtain ⟨m, ⟨o, _, _, ho, _⟩, _⟩ := I.loc
   exact free _ o (fun z => (hch _ z).2.1 rfl) ho I.free
 · obtain ⟨v, o, ho, hd⟩ := I.cell x c e
   exact free c o (fun z => (hch c z).2.2.1 x c e rfl) ho (I.freeC x c e)
 · obtain ⟨e, n, ne, nf, d⟩ := I.pin p hp
   have nch : p.1 ∉ ch := fun z => (hch p.1 z).2.2.2 p hp rfl
   exact ⟨keep p.1 p.2 ne nf nch e n, free p.1 p.2 nch e n, ne, nf, d⟩
theorem Inv.un {t' : Nat} (I : Inv X pins σ H s) (u : Un X.fs [] H H' s.heap h') (hok : HOk X.prog X.w H' h') : Inv X pins σ H' { s with heap := h', toks := t' } := by
 obtain ⟨m, ⟨o, es, ep, ho, r⟩, _⟩ := id I.loc
 obtain ⟨sl, hL⟩ := u.any ho I.free (by simp)
 exact I.step (g' := s.gens) (d' := s.drawn) (ch := []) (fun _ z => nomatch z) (fun b o _ hb _ e n => u.keep b o e n hb (by simp)) (fun b o _ hb _ e n => u.slot b o e n hb (by simp)) (fun b o _ e n => u.free b o e n (by simp)) (fun b o _ e => u.there b o e (by simp)) u.tups u.frzs u.tbls (fun m' hm => by
   obtain ⟨o', es', ep', ho', r'⟩ := hm
   rw [ho] at ho'; cases ho'
   exact ⟨_, es', ep', hL, r'⟩) hok I.bare
theorem Inv.call {g' : Array GenState} {t' : Nat} {d' : Drawn} {ch : List Addr} (I : Inv X pins σ H s) (u : Un (frs X.stack) ch H H' s.heap h') (hok : HOk X.prog X.w H' h') (hg : AllBare g')
   (hch : ∀ b ∈ ch, (b ∈ X.ex ∨ X.s₀.heap.objs.size ≤ b) ∧ b ≠ X.env.locals ∧ (∀ x c, X.env.cells.lookup x = some c → c ≠ b) ∧ ∀ p ∈ X.pn ++ pins, p.1 ≠ b) :
   Inv X pins σ H' { s with heap := h', gens := g', drawn := d', toks := t' } := by
 obtain ⟨m, ⟨o, es, ep, ho, r⟩, _⟩ := id I.loc
 obtain ⟨sl, hL⟩ := u.any ho I.free fun z => (hch _ z).2.1 rfl
 exact I.step (ch := ch) hch (fun b o hL hb hc e n => u.keep b o e n (fun z => (List.mem_cons.mp (I.stkSub b z)).elim hL hb) hc) (fun b o _ _ hc e n => u.any e n hc) (fun b o hc e n => u.free b o e n hc) (fun b o hc e => u.there b o e hc) u.tups u.frzs u.tbls (fun m' hm => by
   obtain ⟨o', es', ep', ho', r'⟩ := hm
   rw [ho] at ho'; cases ho'
   exact ⟨_, es', ep', hL, r'⟩) hok hg
theorem Inv.turned {t' : Nat} {it : Addr} (I : Inv X pins σ H s) (k : ∀ b o, b ≠ it → s.heap.get? b = some o → h'.get? b = some o) (hn : H it = none) (hL : it ≠ X.env.locals)
   (h1 : it ∈ X.ex ∨ X.s₀.heap.objs.size ≤ it) (h2 : ∀ x c, X.env.cells.lookup x = some c → c ≠ it) (h3 : ∀ p ∈ X.pn ++ pins, p.1 ≠ it) : Inv X pins σ H { s with heap := h', toks := t' } := by
 have nit : ∀ b u, H b = some u → b ≠ it := fun b u e z => by rw [z, hn] at e; cases e
 refine I.step (g' := s.gens) (d' := s.drawn) (ch := [it]) (fun b hb => ?_) (fun b o _ _ hc e _ => k b o (fun z => hc (by simp [z])) e) (fun b o _ _ hc e _ => ⟨o.slots, k b o (fun z => hc (by simp [z])) e⟩) (fun _ _ _ _ n => n)
   (fun b o hc e => ⟨o, k b o (fun z => hc (by simp [z])) e⟩) (fun _ _ e => e) (fun _ _ _ e => e) (fun b ps e => ⟨#[], by rw [e]; simp⟩) (fun m hm => ?_) (fun b u e => ?_) I.bare
 · have e : b = it := by simpa using hb
   subst e
   exact ⟨h1, hL, h2, h3⟩
 · obtain ⟨o, es, ep, ho, r⟩ := hm
   exact ⟨o, es, ep, k _ o (Ne.symm hL) ho, r⟩
 · refine (I.hok b u e).stay (fun c v hc q => k c v ?_ q) (fun _ q => q) fun _ _ q => q
   rcases hc with z | z
   · rw [z]; exact nit b u e
   · exact nit c _ z
theorem Inv.tok (I : Inv X pins σ H s) (t : Nat) : Inv X pins σ H { s with toks := t } := I.un (h' := s.heap) (t' := t) Un.refl I.hok
theorem Inv.kept {t' : Nat} (I : Inv X pins σ H s) (k : ∀ b u, s.heap.get? b = some u → h'.get? b = some u) : Inv X pins σ H { s with heap := h', toks := t' } := I.un (Un.kept k) (I.hok.kept k)
theorem Inv.laid {a : Addr} {o : HO} {t' : Nat} (I : Inv X pins σ H s) (k : ∀ b u, s.heap.get? b = some u → h'.get? b = some u) (hp : s.heap.objs.size ≤ a) (new : ObjOk X.prog X.w (upd H a o) h' a o) :
   Inv X pins σ (upd H a o) { s with heap := h', toks := t' } := I.un (Un.laid k hp (I.hok.fresh hp)) (I.hok.laid k hp new)
theorem Inv.write {x e : Addr} {o : HO} {t' : Nat} (I : Inv X pins σ H s) (mu : Mut (H x)) (he : e = x ∨ H e = some (.own x)) (k : ∀ b u, b ≠ e → s.heap.get? b = some u → h'.get? b = some u) (heo : ∃ u, h'.get? e = some u)
   (new : ObjOk X.prog X.w (upd H x o) h' x o) : Inv X pins σ (upd H x o) { s with heap := h', toks := t' } := I.un (Un.write mu he k heo) (I.hok.write mu he k heo new)
theorem Inv.weak {σ' : List (Option V)} (I : Inv X pins σ H s) (hl : σ'.length = σ.length) (w : ∀ (i : Nat) v, σ'[i]? = some (some v) → σ[i]? = some (some v)) : Inv X pins σ' H s :=
 ⟨I.ok, I.os, I.bare, I.base, let ⟨m, hn, hl'⟩ := I.loc; ⟨m, hn, fun i x v e1 e2 e3 => hl' i x v e1 (w i v e2) e3⟩, I.cell, I.free, I.freeC, I.pin, I.hok, hl.trans I.len⟩
theorem Inv.pins_of {pins' : List (Addr × Obj)} (I : Inv X pins σ H s) (h : ∀ p ∈ pins', s.heap.get? p.1 = some p.2 ∧ H p.1 = none ∧ p.1 ≠ X.env.locals ∧ p.1 ∉ X.fs ∧ ∀ v, p.2.data ≠ .cell v) : Inv X pins' σ H s :=
 ⟨I.ok, I.os, I.bare, I.base, I.loc, I.cell, I.free, I.freeC, fun p hp => (List.mem_append.mp hp).elim (fun z => I.pin p (List.mem_append_left _ z)) (h p), I.hok, I.len⟩
theorem nodup_ix {N : List Str} (hN : N.Nodup) {i j : Nat} {x : Str} (a : N[i]? = some x) (b : N[j]? = some x) : i = j := by
 obtain ⟨h1, e1⟩ := List.getElem?_eq_some_iff.mp a
 obtain ⟨h2, e2⟩ := List.getElem?_eq_some_iff.mp b
 exact (List.getElem_inj hN).mp (e1.trans e2.symm)
theorem store_ok2 {M : Model} {A : Around} {E : Value → Shared → Prop} {i : Nat} {x : Str} {v : V} {u : Value} {Q : Unit → Shared → Prop} (I : Inv X pins σ H s) (hN : X.N.Nodup) (hi : X.N[i]? = some x) (hx : Loc X.env.scope x) (r : RelV v u)
   (h : ∀ s', Inv X pins (σ.set i (some v)) H s' → (∃ a, Heap.SameBut a s.heap s'.heap ∧ (a = X.env.locals ∨ X.env.cells.lookup x = some a)) → Q () s') (hf : X.fn x = true ∨ X.env.scope.names.lookup x = some .local := by first | exact .inl rfl | exact .inr rfl | assumption) : wpAny M A (storeName X.env x u) Q E s := by
 obtain ⟨m, hn, hl⟩ := id I.loc
 have hcls : (X.env.scope.kind == .class || (X.env.scope.kind == .module && X.env.locals != X.env.globals)) = false := by rw [I.ok.kind]; rfl
 have hiσ : i < σ.length := by rw [I.len]; exact (List.getElem?_eq_some_iff.mp hi).1
 have cne := I.cne
 have tracked : ∀ {a : Addr} {h' : Heap}, (∃ o, s.heap.get? a = some o ∧ H a = none) → Heap.SameBut a s.heap h' → HOk X.prog X.w H h' := fun {a h'} ha hs b ob e => by
   obtain ⟨_, _, hfree⟩ := ha
   refine (I.hok b ob e).stay (fun c w' hc q => (hs.2 c ?_).trans q) (fun _ q => q) fun _ _ q => q
   rintro rfl
   rcases hc with rfl | hc
   · rw [hfree] at e; cases e
   · rw [hfree] at hc; cases hc
 rcases hx with hk | hk
 · refine wpAny_storeName_local hk hn (fun h' hn' hs => ?_) hcls
   obtain ⟨oL, _, _, hoL, _⟩ := id hn
   refine h _ ⟨I.ok, I.os, I.bare, ⟨fun b o e n hb hx => ?_, fun b o e n hb hx => ?_, I.base.free, fun b o e hx => ?_, I.base.tups, I.base.frzs, I.base.tbls⟩, ⟨_, hn', fun j y v' e1 e2 e3 => ?_⟩, fun y c e => ?_, I.free, I.freeC, fun p hp => ?_, tracked ⟨oL, hoL, I.free⟩ hs, by simpa using I.len⟩ ⟨_, hs, .inl rfl⟩
   · exact (hs.2 b (Nat.ne_of_lt (Nat.lt_of_lt_of_le (Heap.lt_size e) I.ok.above))).trans (I.base.keep b o e n hb hx)
   · obtain ⟨sl, e1⟩ := I.base.slot b o e n hb hx
     exact ⟨sl, (hs.2 b (Nat.ne_of_lt (Nat.lt_of_lt_of_le (Heap.lt_size e) I.ok.above))).trans e1⟩
   · obtain ⟨o', e1⟩ := I.base.there b o e hx
     exact ⟨o', (hs.2 b (Nat.ne_of_lt (Nat.lt_of_lt_of_le (Heap.lt_size e) I.ok.above))).trans e1⟩
   · by_cases hj : j = i
     · subst hj
       rw [hi] at e1; cases e1
       rw [List.getElem?_set_self hiσ] at e2
       cases e2
       exact ⟨u, r, .inl ⟨hk, by simp⟩⟩
     · rw [List.getElem?_set_ne (Ne.symm hj)] at e2
       obtain ⟨u', r', q⟩ := hl j y v' e1 e2 e3
       refine ⟨u', r', ?_⟩
       rcases q with ⟨k, e⟩ | ⟨k, c, e, z⟩
       · refine .inl ⟨k, ?_⟩
         have : y ≠ x := fun e => hj (nodup_ix hN e1 (e ▸ hi))
         simp [this, e]
       · exact .inr ⟨k, c, e, z.sameBut hs (cne y c e)⟩
   · obtain ⟨w', z⟩ := I.cell y c e
     exact ⟨w', z.sameBut hs (cne y c e)⟩
   · obtain ⟨e, n, ne, nf, d⟩ := I.pin p hp
     exact ⟨(hs.2 p.1 ne).trans e, n, ne, nf, d⟩
 · have hfn : X.fn x = true := by
     rcases hf with z | z
     · exact z
     · rw [z] at hk; cases hk
   obtain ⟨c, hc⟩ := I.ok.has x (.inl hk)
   obtain ⟨w', z⟩ := I.cell x c hc
   refine wpAny_storeName_cell I.ok.kind hk hc z (fun h' hc' hs => ?_)
   obtain ⟨oc, hoc, hocd⟩ := id z
   refine h { s with heap := h' } ⟨I.ok, I.os, I.bare, ⟨fun b o e n hb hx => ?_, fun b o e n hb hx => ?_, I.base.free, fun b o e hx => ?_, I.base.tups, I.base.frzs, I.base.tbls⟩, ⟨m, hn.sameBut hs (Ne.symm (cne x c hc)), fun j y v' e1 e2 e3 => ?_⟩, fun y c' e => ?_, I.free, I.freeC, fun p hp => ?_, tracked ⟨oc, hoc, I.freeC x c hc⟩ hs, by simpa using I.len⟩ ⟨c, hs, .inr hc⟩
   · exact (hs.2 b (Nat.ne_of_lt (Nat.lt_of_lt_of_le (Heap.lt_size e) (I.ok.cab x c hfn hc)))).trans (I.base.keep b o e n hb hx)
   · obtain ⟨sl, e1⟩ := I.base.slot b o e n hb hx
     exact ⟨sl, (hs.2 b (Nat.ne_of_lt (Nat.lt_of_lt_of_le (Heap.lt_size e) (I.ok.cab x c hfn hc)))).trans e1⟩
   · obtain ⟨o', e1⟩ := I.base.there b o e hx
     exact ⟨o', (hs.2 b (Nat.ne_of_lt (Nat.lt_of_lt_of_le (Heap.lt_size e) (I.ok.cab x c hfn hc)))).trans e1⟩
   · by_cases hj : j = i
     · subst hj
       rw [hi] at e1; cases e1
       rw [List.getElem?_set_self hiσ] at e2
       cases e2
       exact ⟨u, r, .inr ⟨.inl hk, c, hc, hc'⟩⟩
     · rw [List.getElem?_set_ne (Ne.symm hj)] at e2
       obtain ⟨u', r', q⟩ := hl j y v' e1 e2 e3
       refine ⟨u', r', ?_⟩
       rcases q with q | ⟨k, c', e, z'⟩
       · exact .inl q
       · refine .inr ⟨k, c', e, z'.sameBut hs ?_⟩
         rintro rfl
         exact hj (nodup_ix hN e1 (I.ok.inj _ _ _ e hc ▸ hi))
   · by_cases hcc : c' = c
     · subst hcc; exact ⟨_, hc'⟩
     · obtain ⟨w2, z2⟩ := I.cell y c' e
       exact ⟨w2, z2.sameBut hs hcc⟩
   · obtain ⟨e, n, ne, nf, d⟩ := I.pin p hp
     refine ⟨(hs.2 p.1 ?_).trans e, n, ne, nf, d⟩
     intro q
     rw [q, hoc] at e
     have q' : oc = p.2 := Option.some.inj e
     exact d w' (by rw [← q']; exact hocd)
theorem store_ok {M : Model} {A : Around} {E : Value → Shared → Prop} {i : Nat} {x : Str} {v : V} {u : Value} {Q : Unit → Shared → Prop} (I : Inv X pins σ H s) (hN : X.N.Nodup) (hi : X.N[i]? = some x) (hx : Loc X.env.scope x) (r : RelV v u)
   (h : ∀ s', Inv X pins (σ.set i (some v)) H s' → Q () s') (hf : X.fn x = true ∨ X.env.scope.names.lookup x = some .local := by first | exact .inl rfl | exact .inr rfl | assumption) : wpAny M A (storeName X.env x u) Q E s :=
 store_ok2 I hN hi hx r (fun s' I' _ => h s' I') hf
theorem Inv.call' {s' : Shared} {ch : List Addr} (I : Inv X pins σ H s) (ho : s'.os = s.os) (u : Un (frs X.stack) ch H H' s.heap s'.heap) (hok : HOk X.prog X.w H' s'.heap) (hg : AllBare s'.gens)
   (hch : ∀ b ∈ ch, (b ∈ X.ex ∨ X.s₀.heap.objs.size ≤ b) ∧ b ≠ X.env.locals ∧ (∀ x c, X.env.cells.lookup x = some c → c ≠ b) ∧ ∀ p ∈ X.pn ++ pins, p.1 ≠ b) : Inv X pins σ H' s' := by
 obtain ⟨h', g', d', t', o'⟩ := s'
 have e : o' = s.os := ho
 subst e
 exact I.call (g' := g') (t' := t') (d' := d') u hok hg hch
end
abbrev XK := Value → Option Addr → Hp → Prop
abbrev St := List (Option V)
abbrev VK := V → Hp → Prop
abbrev TE := St → Hp → VK → Prop
abbrev TT := St → Hp → (Bool → Hp → Prop) → Prop
abbrev TA := St → Hp → (List V → Hp → Prop) → Prop
structure Ends where
 nx : St → Hp → Prop
 rt : VK
 bk : St → Hp → Prop := fun _ _ => False
 ct : St → Hp → Prop := fun _ _ => False
abbrev TS := Ends → St → Hp → Prop
def EP (X : Cx) (pins : List (Addr × Obj)) (σ : St) (Q : VK) (u : Value) (s' : Shared) : Prop := ∃ v H', Inv X pins σ H' s' ∧ RelV v u ∧ Q v H'
def TP (X : Cx) (pins : List (Addr × Obj)) (σ : St) (Q : Bool → Hp → Prop) (b : Bool) (s' : Shared) : Prop := ∃ H', Inv X pins σ H' s' ∧ Q b H'
def AP (X : Cx) (pins : List (Addr × Obj)) (σ : St) (Q : List V → Hp → Prop) (us : List Value) (s' : Shared) : Prop := ∃ vs H', Inv X pins σ H' s' ∧ Vals vs us ∧ Q vs H'
def SP (X : Cx) (pins : List (Addr × Obj)) (D : Ends) (f : Flow) (s' : Shared) : Prop :=
 match f with
 | .next => ∃ σ' H', Inv X pins σ' H' s' ∧ D.nx σ' H'
 | .brk => ∃ σ' H', Inv X pins σ' H' s' ∧ D.bk σ' H'
 | .cont => ∃ σ' H', Inv X pins σ' H' s' ∧ D.ct σ' H'
 | .ret u => ∃ v σ' H', Inv X pins σ' H' s' ∧ RelV v u ∧ D.rt v H'
def PE (X : Cx) (e : Expr) (t : TE) : Prop :=
 ∀ (pins : List (Addr × Obj)) (s : Shared) (σ : St) (H : Hp) (Q : VK), Inv X pins σ H s → t σ H Q → wpAny (model X.prog X.w) X.A (eval e X.env) (EP X pins σ Q) X.xe s
def PT (X : Cx) (e : Expr) (t : TT) : Prop :=
 ∀ (pins : List (Addr × Obj)) (s : Shared) (σ : St) (H : Hp) (Q : Bool → Hp → Prop), Inv X pins σ H s → t σ H Q → wpAny (model X.prog X.w) X.A (isTrue e X.env (eval e X.env)) (TP X pins σ Q) X.xe s
def PW (X : Cx) (e : Expr) (t : TT) : Prop :=
 ∀ (whole : Sem Value) (pins : List (Addr × Obj)) (s : Shared) (σ : St) (H : Hp) (Q : Bool → Hp → Prop), Inv X pins σ H s → t σ H Q → wpAny (model X.prog X.w) X.A (isTrue e X.env whole) (TP X pins σ Q) X.xe s
theorem PW.pt {X : Cx} {e : Expr} {t : TT} (h : PW X e t) : PT X e t := h _
def PA (X : Cx) (es : List Expr) (t : TA) : Prop :=
 ∀ (pos : Pos) (pins : List (Addr × Obj)) (s : Shared) (σ : St) (H : Hp) (Q : List V → Hp → Prop), Inv X pins σ H s → t σ H Q → wpAny (model X.prog X.w) X.A (spliced (backTo pos (starEach es X.env))) (AP X pins σ Q) X.xe s
def PS (X : Cx) (st : Stmt) (t : TS) : Prop :=
 ∀ (pins : List (Addr × Obj)) (s : Shared) (σ : St) (H : Hp) (D : Ends), Inv X pins σ H s → t D σ H → wpAny (model X.prog X.w) X.A (exec st X.env) (SP X pins D) X.xe s
def PSs (X : Cx) (st : List Stmt) (t : TS) : Prop :=
 ∀ (pins : List (Addr × Obj)) (s : Shared) (σ : St) (H : Hp) (D : Ends), Inv X pins σ H s → t D σ H → wpAny (model X.prog X.w) X.A (execs st X.env) (SP X pins D) X.xe s
theorem thn {α : Type} {t : Sem α} {Q Q' : α → Shared → Prop} {M : Model} {A : Around} {E : Value → Shared → Prop} {s : Shared} (h : wpAny M A t Q E s) (hQ : ∀ a s, Q a s → Q' a s) : wpAny M A t Q' E s := wpAny_mono h hQ fun _ _ x => x
end L2
namespace L2
open PySem PySem.Spec PyProof.Rows
section
variable {X : Cx}
def tVar (i : Nat) : TE := fun σ H Q => ∃ v, σ[i]? = some (some v) ∧ Q v H
def tC (v : V) : TE := fun _ H Q => Q v H
theorem pe_var {i : Nat} {x : Str} {pos : Pos} (hN : X.N[i]? = some x) (hv : Vis X.env.scope x) (hd : (x == ("__debug__" : Str)) = false := by decide) (hcd : (x == ("__classdict__" : Str)) = false := by decide) : PE X (.Name x pos) (tVar i) := by
 intro pins s σ H Q I h
 obtain ⟨v, e, h⟩ := h
 obtain ⟨m, hn, hl⟩ := I.loc
 obtain ⟨u, r, l⟩ := hl i x v hN e hv
 have fin : EP X pins σ Q u s := ⟨v, H, I, r, h⟩
 rcases l with ⟨hk, hm⟩ | ⟨hk, c, hc, hcell⟩
 · exact wpAny_Name (wpAny_loadName_local I.ok.kind hk hn hm fin) hd
 · rcases hk with hk | hk
   · exact wpAny_Name (wpAny_loadName_cell I.ok.kind hk hc hcell fin) hd
   · exact wpAny_Name (wpAny_loadName_free I.ok.kind hk hc hcell fin hcd) hd
theorem pe_int {i j pos} : PE X (.Constant (.int i) j pos) (tC (.int i)) := fun _ _ _ H _ I h => wpAny_Constant_int ⟨.int i, H, I.tok _, ⟨_, rfl⟩, h⟩
theorem pe_bl {b j pos} : PE X (.Constant (.bool b) j pos) (tC (.bl b)) := fun _ _ _ H _ I h => Constant_bool ⟨.bl b, H, I, rfl, h⟩
theorem pe_str {x j pos} : PE X (.Constant (.str x) j pos) (tC (.str x)) := fun _ _ _ H _ I h => Calls.Constant_str ⟨.str x, H, I.tok _, ⟨_, rfl⟩, h⟩
def Gl (X : Cx) (x : Str) : Prop := X.env.kindOf x = some .globalImplicit
theorem ld_glob {E : Value → Shared → Prop} {pins : List (Addr × Obj)} {s : Shared} {σ : St} {H : Hp} {x : Str} {u : Value} {pos : Pos} {Q : Value → Shared → Prop} (I : Inv X pins σ H s) (hg : Gl X x) (hm : X.mg x = some u) (h : Q u s)
   (hd : (x == ("__debug__" : Str)) = false := by decide) : wpAny (model X.prog X.w) X.A (eval (.Name x pos) X.env) Q E s :=
 Calls.Name_function_global I.ok.kind hg (Calls.loadGlobal_global (by rw [I.ok.glob]; exact I.mod.glob.keeps I.bk) hm h) hd
theorem ld_blt {E : Value → Shared → Prop} {pins : List (Addr × Obj)} {s : Shared} {σ : St} {H : Hp} {x : Str} {u : Value} {pos : Pos} {Q : Value → Shared → Prop} (I : Inv X pins σ H s) (hg : Gl X x) (hm : X.mg x = none) (hv : bootBuiltins x = some u) (h : Q u s)
   (hn : x ≠ "__name__" := by decide) (hd : (x == ("__debug__" : Str)) = false := by decide) : wpAny (model X.prog X.w) X.A (eval (.Name x pos) X.env) Q E s := by
 obtain ⟨mb, h1, h2⟩ := I.mod.blt
 exact Calls.Name_function_global I.ok.kind hg (Calls.loadGlobal_builtin (by rw [I.ok.glob]; exact I.mod.glob.keeps I.bk) hm (by rw [I.ok.blt]; exact h1.keeps I.bk) ((h2 x hn).trans hv) h) hd
variable {a b : Expr} {ta tb : TE} {pos : Pos}
def PC (X : Cx) (op : CmpOp) (a b : Expr) (t : TE) : Prop :=
 ∀ (pins : List (Addr × Obj)) (s : Shared) (σ : St) (H : Hp) (Q : VK), Inv X pins σ H s → t σ H Q →
   wpAny (model X.prog X.w) X.A (eval a X.env) (fun v s₁ => wpAny (model X.prog X.w) X.A (eval b X.env) (fun u s₂ => wpAny (model X.prog X.w) X.A (compareOp op v u) (EP X pins σ Q) X.xe s₂) X.xe s₁) X.xe s
def tB (t : TE) : TT := fun σ H Q => t σ H fun x H1 => ∃ c, x = .bl c ∧ Q c H1
theorem pe_cmp {op : CmpOp} {t : TE} (h : PC X op a b t) (h1 : behindInMarks op b = false := by first | exact nobehind _ (by decide) (by decide) | rfl) : PE X (.Compare a [op] [b] pos) t := fun pins s σ H Q I hw => wpAny_Compare1 (h pins s σ H Q I hw) h1
theorem pt_cmp {op : CmpOp} {t : TE} (h : PC X op a b t) (h1 : behindInMarks op b = false := by first | exact nobehind _ (by decide) (by decide) | rfl) : PT X (.Compare a [op] [b] pos) (tB t) := by
 intro pins s σ H Q I hw
 refine wpAny_isTrue_Compare1 (thn (h pins s σ H _ I hw) fun v s1 h1 => thn h1 fun u s2 h2 => thn h2 fun c s3 ⟨x, H1, I1, r1, q1⟩ => ?_) h1
 obtain ⟨d, rfl, q⟩ := q1
 cases r1
 exact wpAny_truthy_bool ⟨H1, I1, q⟩
theorem pt_val {e : Expr} {t : TE} (h : PE X e t) (he : ∀ whole, isTrue e X.env whole = (do let v ← whole; standAt e.pos; holding [v] (truthy v)) := by intro _; rfl) : PT X e (tB t) := by
 intro pins s σ H Q I hw
 refine isTrue_plain (thn (h pins s σ H _ I hw) fun v s1 ⟨x, H1, I1, r1, q1⟩ => ?_) (he _)
 obtain ⟨d, rfl, q⟩ := q1
 cases r1
 exact wpAny_truthy_bool ⟨H1, I1, q⟩
variable {tA tB' : TT} {rest : List Expr}
def tAnd (t u : TT) : TT := fun σ H Q => t σ H fun c H1 => if c = true then u σ H1 Q else Q false H1
def tOr (t u : TT) : TT := fun σ H Q => t σ H fun c H1 => if c = true then Q true H1 else u σ H1 Q
def tNot (t : TT) : TT := fun σ H Q => t σ H fun c H1 => Q (!c) H1
theorem pw_and1 (ha : PT X a tA) : PW X (.BoolOp .And [a] pos) tA := by
 intro wh pins s σ H Q I h
 refine isTrue_and (thn (ha pins s σ H Q I h) fun c s1 e => ?_)
 cases c with
 | true => exact isTrue_and_nil e
 | false => exact e
theorem pw_or1 (ha : PT X a tA) : PW X (.BoolOp .Or [a] pos) tA := by
 intro wh pins s σ H Q I h
 refine isTrue_or (thn (ha pins s σ H Q I h) fun c s1 e => ?_)
 cases c with
 | false => exact isTrue_or_nil e
 | true => exact e
theorem pw_and (ha : PT X a tA) (hb : PW X (.BoolOp .And (b :: rest) pos) tB') : PW X (.BoolOp .And (a :: b :: rest) pos) (tAnd tA tB') := by
 intro wh pins s σ H Q I h
 refine isTrue_and (thn (ha pins s σ H _ I h) fun c s1 ⟨H1, I1, q1⟩ => ?_)
 cases c with
 | true => exact hb wh pins s1 σ H1 Q I1 q1
 | false => exact ⟨H1, I1, q1⟩
theorem pw_or (ha : PT X a tA) (hb : PW X (.BoolOp .Or (b :: rest) pos) tB') : PW X (.BoolOp .Or (a :: b :: rest) pos) (tOr tA tB') := by
 intro wh pins s σ H Q I h
 refine isTrue_or (thn (ha pins s σ H _ I h) fun c s1 ⟨H1, I1, q1⟩ => ?_)
 cases c with
 | true => exact ⟨H1, I1, q1⟩
 | false => exact hb wh pins s1 σ H1 Q I1 q1
theorem pt_not (ha : PT X a tA) : PT X (.UnaryOp .Not a pos) (tNot tA) := by
 intro pins s σ H Q I h
 exact isTrue_not (ha pins s σ H (fun c H1 => Q (!c) H1) I h)
def tAndV (ta tb : TE) : TE := fun σ H Q => ta σ H fun x H1 => ∃ c, x = .bl c ∧ if c = true then tb σ H1 Q else Q (.bl false) H1
def tNotV (ta : TE) : TE := fun σ H Q => ta σ H fun x H1 => ∃ c, x = .bl c ∧ Q (.bl (!c)) H1
theorem pe_one {op} {t : TE} (h : PE X a t) : PE X (.BoolOp op [a] pos) t := fun pins s σ H Q I hw => BoolOp_one (h pins s σ H Q I hw)
theorem pe_and (ha : PE X a ta) (hb : PE X (.BoolOp .And (b :: rest) pos) tb) : PE X (.BoolOp .And (a :: b :: rest) pos) (tAndV ta tb) := by
 intro pins s σ H Q I h
 refine BoolOp_and (thn (ha pins s σ H _ I h) fun v s1 ⟨x, H1, I1, r1, q1⟩ => ?_)
 obtain ⟨c, rfl, q1⟩ := q1
 cases r1
 refine wpAny_truthy_bool ?_
 cases c with
 | true => exact hb pins s1 σ H1 Q I1 q1
 | false => exact ⟨.bl false, H1, I1, rfl, q1⟩
theorem pe_not (ha : PE X a ta) : PE X (.UnaryOp .Not a pos) (tNotV ta) := by
 intro pins s σ H Q I h
 refine UnaryOp_ (thn (ha pins s σ H _ I h) fun v s1 ⟨x, H1, I1, r1, q1⟩ => ?_)
 obtain ⟨c, rfl, q1⟩ := q1
 cases r1
 exact not_of (wpAny_truthy_bool ⟨.bl (!c), H1, I1, rfl, q1⟩)
def tIf (t : TT) (ta tb : TE) : TE := fun σ H Q => t σ H fun c H1 => if c = true then ta σ H1 Q else tb σ H1 Q
theorem pe_ifExp {c : Expr} (hc : PT X c tA) (ha : PE X a ta) (hb : PE X b tb) : PE X (.IfExp c a b pos) (tIf tA ta tb) := by
 intro pins s σ H Q I h
 refine wpAny_IfExp (thn (hc pins s σ H _ I h) fun d s1 ⟨H1, I1, q1⟩ => ?_)
 cases d with
 | true => exact ha pins s1 σ H1 Q I1 q1
 | false => exact hb pins s1 σ H1 Q I1 q1
end
end L2
namespace L2
open PySem PySem.Spec PyProof.Rows
def SqL (K : PySem.W.Frag) (H : Hp) (a : Addr) (xs : List V) : Prop :=
 Rd H a (.lst xs) ∨
   ∃ (o : Obj) (its : Array Value) (n : Nat), K.lookup a = some o ∧ o.cls = .type "list" ∧ o.dict = none ∧ o.data = .seq its n ∧ its.size ≤ sizeLine ∧ Vals xs its.toList
def SqT (K : PySem.W.Frag) (H : Hp) (a : Addr) (xs : List V) : Prop :=
 Rd H a (.tup xs) ∨
   ∃ (o : Obj) (its : Array Value) (n : Nat), K.lookup a = some o ∧ o.cls = .type "tuple" ∧ o.data = .seq its n ∧ its.size ≤ sizeLine ∧ Vals xs its.toList
def absV : Value → Option V
 | .none => some .non
 | .bool b => some (.bl b)
 | .int i _ => some (.int i)
 | .str x _ => some (.str x)
 | .bytes b _ => some (.byt b)
 | .float b _ => some (.flt b)
 | .ref a => some (.ref a)
 | .type n => some (.ty n)
 | _ => none
theorem RelV.abs {x : V} {u : Value} (r : RelV x u) : absV u = some x := by
 cases x with
 | non => cases r; rfl
 | bl _ => cases r; rfl
 | int _ => obtain ⟨t, rfl⟩ := r; rfl
 | str _ => obtain ⟨t, rfl⟩ := r; rfl
 | byt _ => obtain ⟨t, rfl⟩ := r; rfl
 | flt _ => obtain ⟨t, rfl⟩ := r; rfl
 | ref _ => cases r; rfl
 | ty _ => cases r; rfl
theorem RelV.inj {x y : V} {u : Value} (r : RelV x u) (q : RelV y u) : x = y := Option.some.inj (r.abs.symm.trans q.abs)
theorem Vals.inj : ∀ {xs ys : List V} {us : List Value}, Vals xs us → Vals ys us → xs = ys
 | _, _, _, .nil, .nil => rfl
 | _, _, _, .cons r t, .cons r' t' => by rw [r.inj r', Vals.inj t t']
section
variable {X : Cx} {pins : List (Addr × Obj)} {σ : St} {H : Hp} {s : Shared} {a : Addr} {xs ys : List V}
theorem SqL.of {K : PySem.W.Frag} (h : H a = some (.lst xs)) : SqL K H a xs := .inl (.inl h)
theorem SqT.of {K : PySem.W.Frag} (h : H a = some (.tup xs)) : SqT K H a xs := .inl (.inl h)
theorem Inv.list (I : Inv X pins σ H s) (h : SqL X.K H a xs) : ∃ its : List Value, Vals xs its ∧ PlainL s.heap a its.toArray ∧ xs.length ≤ sizeLine := by
 rcases h with h | ⟨o, its, n, hk, hc, hd, hs, hz, r⟩
 · obtain ⟨z, its, n, r, e⟩ := h.ok I.hok
   exact ⟨its, r, ⟨_, n, e, rfl, rfl, rfl⟩, z⟩
 · refine ⟨its.toList, r, ⟨o, n, I.kIn a o hk, hc, hd, by simpa using hs⟩, ?_⟩
   have e := r.length
   simp only [Array.length_toList] at e
   omega
theorem Inv.tuple (I : Inv X pins σ H s) (h : SqT X.K H a xs) : ∃ its : List Value, Vals xs its ∧ IsTup s.heap a its.toArray ∧ xs.length ≤ sizeLine := by
 rcases h with h | ⟨o, its, n, hk, hc, hs, hz, r⟩
 · obtain ⟨z, its, r, p⟩ := h.ok I.hok
   exact ⟨its, r, p, z⟩
 · refine ⟨its.toList, r, ⟨o, I.kIn a o hk, hc, n, by simpa using hs⟩, ?_⟩
   have e := r.length
   simp only [Array.length_toList] at e
   omega
theorem Inv.list_inj (I : Inv X pins σ H s) (h : SqL X.K H a xs) (h' : SqL X.K H a ys) : xs = ys := by
 obtain ⟨its, r, ⟨o, n, e, _, _, d⟩, _⟩ := I.list h
 obtain ⟨its', r', ⟨o', n', e', _, _, d'⟩, _⟩ := I.list h'
 rw [e] at e'; cases e'
 rw [d] at d'
 injection d' with d1 _
 have : its = its' := by simpa using congrArg Array.toList d1
 subst this
 exact r.inj r'
theorem Inv.tuple_inj (I : Inv X pins σ H s) (h : SqT X.K H a xs) (h' : SqT X.K H a ys) : xs = ys := by
 obtain ⟨its, r, ⟨o, e, _, n, d⟩, _⟩ := I.tuple h
 obtain ⟨its', r', ⟨o', e', _, n', d'⟩, _⟩ := I.tuple h'
 rw [e] at e'; cases e'
 rw [d] at d'
 injection d' with d1 _
 have : its = its' := by simpa using congrArg Array.toList d1
 subst this
 exact r.inj r'
end
abbrev Cx.wish (X : Cx) (E : Value → Shared → Prop) : Cx := { X with xe := E }
abbrev Cx.nox (X : Cx) : Cx := X.wish fun _ _ => False
theorem Cx.Ok.wish {X : Cx} (ok : X.Ok) (E : Value → Shared → Prop) : (X.wish E).Ok :=
 ⟨ok.mod, ok.kind, ok.glob, ok.blt, ok.above, ok.inj, ok.has, ok.cab, ok.hd, ok.frames, ok.stk, ok.exf, ok.bs, ok.bsz, ok.noex, ok.exfs, ok.funs, ok.frf⟩
theorem Cx.Ok.unwish {X : Cx} {E : Value → Shared → Prop} (ok : (X.wish E).Ok) : X.Ok :=
 ⟨ok.mod, ok.kind, ok.glob, ok.blt, ok.above, ok.inj, ok.has, ok.cab, ok.hd, ok.frames, ok.stk, ok.exf, ok.bs, ok.bsz, ok.noex, ok.exfs, ok.funs, ok.frf⟩
section
variable {X : Cx} {pins : List (Addr × Obj)} {σ : St} {H : Hp} {s : Shared} {E : Value → Shared → Prop}
theorem Inv.wish (I : Inv X pins σ H s) (E : Value → Shared → Prop) : Inv (X.wish E) pins σ H s := ⟨I.ok.wish E, I.os, I.bare, I.base, I.loc, I.cell, I.free, I.freeC, I.pin, I.hok, I.len⟩
theorem Inv.unwish (I : Inv (X.wish E) pins σ H s) : Inv X pins σ H s := ⟨I.ok.unwish, I.os, I.bare, I.base, I.loc, I.cell, I.free, I.freeC, I.pin, I.hok, I.len⟩
theorem SP.unwish {D : Ends} {f : Flow} {s' : Shared} (h : SP (X.wish E) pins D f s') : SP X pins D f s' := by
 cases f with
 | next => obtain ⟨σ', H', I, q⟩ := h; exact ⟨σ', H', I.unwish, q⟩
 | brk => obtain ⟨σ', H', I, q⟩ := h; exact ⟨σ', H', I.unwish, q⟩
 | cont => obtain ⟨σ', H', I, q⟩ := h; exact ⟨σ', H', I.unwish, q⟩
 | ret u => obtain ⟨v, σ', H', I, r, q⟩ := h; exact ⟨v, σ', H', I.unwish, r, q⟩
theorem PSs.nox {st : List Stmt} {t : TS} (h : PSs X.nox st t) : PSs X st t := fun pins s σ H D I hw =>
 wpAny_mono (h pins s σ H D (I.wish _) hw) (fun _ _ q => q.unwish) fun _ _ z => False.elim z
end
section
variable {X : Cx} {st : Stmt} {rest : List Stmt} {t u : TS} {e : Expr} {te : TE} {pos : Pos}
def tNext : TS := fun D σ H => D.nx σ H
def tSeq (t u : TS) : TS := fun D σ H => t { D with nx := u D } σ H
theorem pss_nil : PSs X [] tNext := fun _ _ σ H _ I h => wpAny_execs_nil ⟨σ, H, I, h⟩
theorem pss_cons (h1 : PS X st t) (h2 : PSs X rest u) : PSs X (st :: rest) (tSeq t u) := by
 intro pins s σ H D I h
 refine wpAny_execs_cons (thn (h1 pins s σ H { D with nx := u D } I h) fun f s1 q => ?_)
 cases f with
 | next =>
   obtain ⟨σ', H', I', q⟩ := q
   exact h2 pins s1 σ' H' D I' q
 | ret v => exact q
 | brk => exact q
 | cont => exact q
theorem pss_one (h1 : PS X st t) : PSs X [st] t := by
 intro pins s σ H D I h
 refine wpAny_execs_cons (thn (h1 pins s σ H D I h) fun f s1 q => ?_)
 cases f with
 | next => exact wpAny_execs_nil q
 | ret v => exact q
 | brk => exact q
 | cont => exact q
theorem Inv.quiet {pins : List (Addr × Obj)} {σ : St} {H : Hp} {s : Shared} (I : Inv X pins σ H s) : interactive X.env = false := by simp [interactive, I.ok.kind]
def tDrop (te : TE) : TS := fun D σ H => te σ H fun _ H1 => D.nx σ H1
theorem ps_expr (he : PE X e te) (hs : swapsWith e none pos.line X.env = pure false := by rfl) : PS X (.Expr e pos) (tDrop te) := by
 intro pins s σ H D I h
 exact wpAny_Expr_any (thn (he pins s σ H _ I h) fun v s1 ⟨x, H1, I1, r1, q1⟩ => ⟨σ, H1, I1, q1⟩) I.quiet hs
def tRet (te : TE) : TS := fun D σ H => te σ H D.rt
theorem ps_ret (he : PE X e te) : PS X (.Return (some e) pos) (tRet te) := by
 intro pins s σ H D I h
 exact wpAny_Return_some (thn (he pins s σ H _ I h) fun v s1 ⟨x, H1, I1, r1, q1⟩ => ⟨x, σ, H1, I1, r1, q1⟩)
def tIfS (c : TT) (t u : TS) : TS := fun D σ H => c σ H fun b H1 => if b = true then t D σ H1 else u D σ H1
theorem ps_if {c : Expr} {a b : List Stmt} {tc : TT} (hc : PT X c tc) (ha : PSs X a t) (hb : PSs X b u) : PS X (.If c a b pos) (tIfS tc t u) := by
 intro pins s σ H D I h
 refine wpAny_If (thn (hc pins s σ H _ I h) fun d s1 ⟨H1, I1, q1⟩ => ?_)
 cases d with
 | true => exact ha pins s1 σ H1 D I1 q1
 | false => exact hb pins s1 σ H1 D I1 q1
end
abbrev TG := V → St → Hp → (St → Hp → Prop) → Prop
abbrev TGs := List V → St → Hp → (St → Hp → Prop) → Prop
def PG (X : Cx) (target : Expr) (t : TG) : Prop :=
 ∀ (pins : List (Addr × Obj)) (s : Shared) (σ : St) (H : Hp) (v : V) (u : Value) (Q : St → Hp → Prop), Inv X pins σ H s → RelV v u → t v σ H Q →
   wpAny (model X.prog X.w) X.A (assign target X.env u) (fun _ s' => ∃ σ' H', Inv X pins σ' H' s' ∧ Q σ' H') X.xe s
def PGs (X : Cx) (ts : List Expr) (t : TGs) : Prop :=
 ∀ (pins : List (Addr × Obj)) (s : Shared) (σ : St) (H : Hp) (vs : List V) (us : List Value) (Q : St → Hp → Prop), Inv X pins σ H s → Vals vs us → t vs σ H Q →
   wpAny (model X.prog X.w) X.A (assignInOrder ((assignEach ts X.env).map (·.2)) us) (fun _ s' => ∃ σ' H', Inv X pins σ' H' s' ∧ Q σ' H') X.xe s
abbrev TIp := V → V → Hp → VK → Prop
def PIp (X : Cx) (op : Operator) (t : TIp) : Prop :=
 ∀ (pins : List (Addr × Obj)) (s : Shared) (σ : St) (H : Hp) (x y : V) (v u : Value) (Q : VK), Inv X pins σ H s → RelV x v → RelV y u → t x y H Q →
   wpAny (model X.prog X.w) X.A (inplaceOp op v u) (EP X pins σ Q) X.xe s
section
variable {X : Cx} {pos : Pos}
def gName (i : Nat) : TG := fun v σ H Q => Q (σ.set i (some v)) H
theorem pg_name {i : Nat} {x : Str} (hN : X.N.Nodup) (hi : X.N[i]? = some x) (hx : Loc X.env.scope x) (hf : X.fn x = true ∨ X.env.scope.names.lookup x = some .local := by first | exact .inl rfl | exact .inr rfl | assumption) : PG X (.Name x pos) (gName i) := by
 intro pins s σ H v u Q I r h
 exact wpAny_assign_Name (store_ok I hN hi hx r (fun s' I' => ⟨_, H, I', h⟩) hf)
def gNil : TGs := fun vs σ H Q => vs = [] ∧ Q σ H
def gCons (t : TG) (u : TGs) : TGs := fun vs σ H Q => ∃ v r, vs = v :: r ∧ t v σ H fun σ' H' => u r σ' H' Q
theorem pgs_nil : PGs X [] gNil := by
 intro pins s σ H vs us Q I r h
 obtain ⟨e, h⟩ := h
 subst e
 cases r
 exact assignInOrder_nil ⟨σ, H, I, h⟩
theorem pgs_cons {e : Expr} {es : List Expr} {t : TG} {u : TGs} (h1 : PG X e t) (h2 : PGs X es u)
   (hs : (assignEach (e :: es) X.env).map (·.2) = assign e X.env :: (assignEach es X.env).map (·.2) := by rfl) : PGs X (e :: es) (gCons t u) := by
 intro pins s σ H vs us Q I r h
 obtain ⟨v, vr, e1, h⟩ := h
 subst e1
 cases r with
 | cons r rr =>
   rw [hs]
   refine assignInOrder_cons (thn (h1 pins s σ H _ _ _ I r h) fun _ s1 ⟨σ1, H1, I1, q1⟩ => ?_)
   exact h2 pins s1 σ1 H1 _ _ Q I1 rr q1
def gTup (K : PySem.W.Frag) (n : Nat) (t : TGs) : TG := fun v σ H Q => ∃ a xs, v = .ref a ∧ SqT K H a xs ∧ xs.length = n ∧ t xs σ H Q
theorem pg_tup {es : List Expr} {k : Nat} {t : TGs} {n : Nat} (hc : X.calm = true) (h : PGs X es t)
   (hn : (assignEach es X.env).length = n := by rfl) (hst : (assignEach es X.env).findIdx? (·.1) = none := by rfl) : PG X (.Tuple es k pos) (gTup X.K n t) := by
 intro pins s σ H v u Q I r hw
 obtain ⟨a, xs, e1, hq, hl, hw⟩ := hw
 subst e1
 cases r
 obtain ⟨its, rv, ht, hz⟩ := I.tuple hq
 refine assign_Tuple_tuple (I.ok.hd hc) ht (by simp [hn, ← hl, rv.length]) hst fun h' hx => ?_
 have I1 : Inv X pins σ H { s with heap := h' } := I.kept (t' := s.toks) fun b o e => hx b o (Nat.ne_of_lt (Heap.lt_size e)) e
 exact h pins _ σ H xs _ Q I1 (by simpa using rv) hw
def tAsg (te : TE) (g : TG) : TS := fun D σ H => te σ H fun x H1 => g x σ H1 D.nx
theorem ps_asg {tg e : Expr} {te : TE} {g : TG} (he : PE X e te) (hg : PG X tg g) (hs : swapsWithSole [tg] e pos.line X.env = pure false := by rfl) (hw : swappedStores [tg] e X.env = pure none := by rfl)
   (h1 : (assignEach [tg] X.env).map (·.2) = [assign tg X.env] := by rfl) : PS X (.Assign [tg] e pos) (tAsg te g) := by
 intro pins s σ H D I h
 refine wpAny_Assign_stores (thn (he pins s σ H _ I h) fun v s1 ⟨x, H1, I1, r1, q1⟩ => ?_) hs hw
 rw [h1]
 exact thn (hg pins s1 σ H1 x v _ I1 r1 q1) fun _ s2 q => q
theorem ps_set {i : Nat} {x : Str} {e : Expr} {te : TE} {pos' : Pos} (hN : X.N.Nodup) (hi : X.N[i]? = some x) (hx : Loc X.env.scope x) (he : PE X e te) (hs : swapsWith e (some (.Name x pos')) pos.line X.env = pure false := by rfl) (hf : X.fn x = true ∨ X.env.scope.names.lookup x = some .local := by first | exact .inl rfl | exact .inr rfl | assumption) :
   PS X (.Assign [.Name x pos'] e pos) (tAsg te (gName i)) := by
 intro pins s σ H D I h
 refine wpAny_Assign_Name (thn (he pins s σ H _ I h) fun v s1 ⟨y, H1, I1, r1, q1⟩ => ?_) hs
 exact store_ok I1 hN hi hx r1 (fun s2 I2 => ⟨_, H1, I2, q1⟩) hf
def tAug (i : Nat) (te : TE) (ti : TIp) : TS := fun D σ H => ∃ x, σ[i]? = some (some x) ∧ te σ H fun y H1 => ti x y H1 fun z H2 => D.nx (σ.set i (some z)) H2
theorem ps_aug {i : Nat} {x : Str} {e : Expr} {te : TE} {op : Operator} {ti : TIp} {pos' : Pos} (hN : X.N.Nodup) (hi : X.N[i]? = some x) (hx : Loc X.env.scope x) (he : PE X e te) (ho : PIp X op ti) (hf : X.fn x = true ∨ X.env.scope.names.lookup x = some .local := by first | exact .inl rfl | exact .inr rfl | assumption) :
   PS X (.AugAssign (.Name x pos') op e pos) (tAug i te ti) := by
 intro pins s σ H D I h
 obtain ⟨v, e1, h⟩ := h
 obtain ⟨m, hn, hl⟩ := I.loc
 have vis : Vis X.env.scope x := by rcases hx with k | k; exact .inl k; exact .inr (.inl k)
 obtain ⟨u, r, l⟩ := hl i x v hi e1 vis
 refine wpAny_AugAssign_Name ?_
 have go : wpAny (model X.prog X.w) X.A (eval e X.env) (fun w s₂ => wpAny (model X.prog X.w) X.A (inplaceOp op u w) (fun r s₃ => wpAny (model X.prog X.w) X.A (storeName X.env x r) (fun _ => SP X pins D .next) X.xe s₃) X.xe s₂) X.xe s := by
   refine thn (he pins s σ H _ I h) fun w s1 ⟨y, H1, I1, r1, q1⟩ => ?_
   refine thn (ho pins s1 σ H1 v y u w _ I1 r r1 q1) fun z s2 ⟨zv, H2, I2, r2, q2⟩ => ?_
   exact store_ok I2 hN hi hx r2 (fun s3 I3 => ⟨_, H2, I3, q2⟩) hf
 rcases l with ⟨hk, hm⟩ | ⟨hk, c, hc, hcell⟩
 · exact wpAny_loadName_local I.ok.kind hk hn hm go
 · rcases hk with hk | hk
   · exact wpAny_loadName_cell I.ok.kind hk hc hcell go
   · rcases hx with k | k
     · have : X.env.scope.names.lookup x = some .free := hk
       rw [k] at this; cases this
     · have : X.env.scope.names.lookup x = some .free := hk
       rw [k] at this; cases this
def ipI (f : Int → Int → Int) : TIp := fun x y H Q => ∃ i j, x = .int i ∧ y = .int j ∧ Q (.int (f i j)) H
theorem ip_add : PIp X .Add (ipI fun i j => i + j) := by
 intro pins s σ H x y v u Q I r1 r2 h
 obtain ⟨i, j, e1, e2, q⟩ := h
 subst e1; subst e2
 obtain ⟨t, rfl⟩ := r1
 obtain ⟨t', rfl⟩ := r2
 exact iadd_int ⟨.int _, H, I.tok _, ⟨_, rfl⟩, q⟩
end
section
variable {X : Cx} {pos : Pos}
def tWhile (c : TT) (tb : TS) : TS := fun D σ H => ∃ W : Nat → St → Hp → Prop, (∃ m, W m σ H) ∧ ∀ m σ H, W m σ H →
 c σ H fun b H1 => if b = true then ∃ N : St → Hp → Prop, (∀ σ' H', N σ' H' → ∃ m', m' < m ∧ W m' σ' H') ∧ tb { D with nx := N, ct := N, bk := D.nx } σ H1 else D.nx σ H1
theorem ps_while {c : Expr} {body : List Stmt} {tc : TT} {tb : TS} (hp : PassesOwn (model X.prog X.w) X.A X.env X.xe) (hc : PT X c tc) (hb : PSs X body tb) : PS X (.While c body [] pos) (tWhile tc tb) := by
 intro pins s σ H D I h
 obtain ⟨W, ⟨m0, w0⟩, turn⟩ := h
 refine wpAny_While (codeAny_whileLoop (fun n s' => ∃ σ' H', Inv X pins σ' H' s' ∧ W n σ' H') ?_ m0 ⟨σ, H, I, w0⟩)
 rintro n s1 ⟨σ1, H1, I1, w1⟩
 refine wpAny_passesOwn hp (thn (hc pins s1 σ1 H1 _ I1 (turn n σ1 H1 w1)) fun b s2 ⟨H2, I2, q2⟩ => ?_)
 cases b with
 | true =>
   obtain ⟨N, hN, q2⟩ := q2
   rw [if_pos rfl]
   refine wpAny_passesOwn hp (thn (hb pins s2 σ1 H2 _ I2 q2) fun f s3 q3 => ?_)
   cases f with
   | next =>
     obtain ⟨σ3, H3, I3, n3⟩ := q3
     obtain ⟨m', hm, w3⟩ := hN σ3 H3 n3
     exact ⟨m', hm, σ3, H3, I3, w3⟩
   | cont =>
     obtain ⟨σ3, H3, I3, n3⟩ := q3
     obtain ⟨m', hm, w3⟩ := hN σ3 H3 n3
     exact ⟨m', hm, σ3, H3, I3, w3⟩
   | brk => exact q3
   | ret v => exact q3
 | false =>
   rw [if_neg Bool.false_ne_true]
   exact wpAny_execs_nil ⟨σ1, H2, I2, q2⟩
end
structure It where
 go : Nat → Hp → Prop
 yld : Nat → Hp → V → Hp → Prop
 stop : Nat → Hp → Prop
def FpOk (X : Cx) (pins : List (Addr × Obj)) (H : Hp) (b : Addr) : Prop :=
 H b = none ∧ b ≠ X.env.locals ∧ b ∉ X.fs ∧ (b ∈ X.ex ∨ X.s₀.heap.objs.size ≤ b) ∧ (∀ x c, X.env.cells.lookup x = some c → c ≠ b) ∧ ∀ p ∈ X.pn ++ pins, p.1 ≠ b
theorem Inv.fpOk {X : Cx} {pins : List (Addr × Obj)} {σ : St} {H H' : Hp} {s : Shared} {b : Addr} (I : Inv X pins σ H s) (hb : s.heap.objs.size ≤ b) (hn : H' b = none) : FpOk X pins H' b := by
 refine ⟨hn, Nat.ne_of_gt (Nat.lt_of_lt_of_le I.lt hb), I.nofs hb, .inr (Nat.le_trans I.sz hb), fun x c e z => ?_, fun p hp z => ?_⟩
 · obtain ⟨v, q⟩ := I.cell x c e
   exact absurd (Nat.lt_of_lt_of_le q.lt (by rw [z]; exact hb)) (Nat.lt_irrefl _)
 · exact absurd (Nat.lt_of_lt_of_le (Heap.lt_size (I.pin p hp).1) (by rw [z]; exact hb)) (Nat.lt_irrefl _)
structure Turn (P : Program) (w : World) (K : PySem.W.Frag) (tg : Expr) (J : It) (fp : List Addr) (it : Addr) (tn : Nat → Heap → Prop) : Prop where
 mem : it ∈ fp
 obj : ∀ i h, tn i h → ∀ b ∈ fp, ∃ o, h.get? b = some o ∧ ∀ v, o.data ≠ .cell v
 keep : ∀ i h h', tn i h → (∀ b ∈ fp, ∀ o, h.get? b = some o → h'.get? b = some o) → tn i h'
 item : ∀ (X : Cx), X.prog = P → X.w = w → X.K = K → X.calm = true → ∀ (i : Nat) (pins : List (Addr × Obj)) (s : Shared) (σ : St) (H : Hp) (E : Value → Shared → Prop), Inv X pins σ H s → (∀ b ∈ fp, FpOk X pins H b) → tn i s.heap → J.go i H →
   wpAny (model P w) X.A (pyNext (.ref it)) (fun r s1 => ∃ u, r = some u ∧
     wpAny (model P w) X.A (letOwnedTupleGo tg (.ref it) u) (fun _ s2 => ∃ x H', Inv X pins σ H' s2 ∧ RelV x u ∧ J.yld i H x H' ∧ tn (i + 1) s2.heap ∧ ∀ b ∈ fp, H' b = none) E s1) E s
 done : ∀ (X : Cx), X.prog = P → X.w = w → X.K = K → X.calm = true → ∀ (i : Nat) (pins : List (Addr × Obj)) (s : Shared) (σ : St) (H : Hp) (E : Value → Shared → Prop), Inv X pins σ H s → (∀ b ∈ fp, FpOk X pins H b) → tn i s.heap → J.stop i H →
   wpAny (model P w) X.A (pyNext (.ref it)) (fun r s1 => r = none ∧ Inv X pins σ H s1) E s
 self : ∀ (A : Around) (i : Nat) (s : Shared) (Q : Value → Shared → Prop) (E : Value → Shared → Prop), tn i s.heap → Q (.ref it) s → wpAny (model P w) A (pyIter (.ref it)) Q E s
abbrev TI := St → Hp → (It → Hp → Prop) → Prop
def PIE (X : Cx) (pins : List (Addr × Obj)) (σ : St) (tg : Expr) (R : It → Hp → Prop) (itv : Value) (s2 : Shared) : Prop :=
 ∃ (it : Addr) (fp : List Addr) (tn : Nat → Heap → Prop) (J : It) (H' : Hp), itv = .ref it ∧ Inv X pins σ H' s2 ∧ Turn X.prog X.w X.K tg J fp it tn ∧ tn 0 s2.heap ∧ (∀ b ∈ fp, FpOk X pins H' b) ∧ R J H'
def PI (X : Cx) (tg iter : Expr) (wi : TI) : Prop :=
 ∀ (pins : List (Addr × Obj)) (s : Shared) (σ : St) (H : Hp) (R : It → Hp → Prop), Inv X pins σ H s → wi σ H R →
   wpAny (model X.prog X.w) X.A (eval iter X.env) (fun v s1 => wpAny (model X.prog X.w) X.A (pyIter v) (PIE X pins σ tg R) X.xe s1) X.xe s
theorem go_of {M : Model} {A : Around} {E : Value → Shared → Prop} {s : Shared} {tg : Expr} {it : Addr} {u : Value} {o : Obj} {n : String} {vs : Array Value} {Q : Unit → Shared → Prop} (ho : s.heap.get? it = some o) (hc : o.cls = .type n) (hd : o.data = .fields vs)
   (hn : ["enumerate", "zip", "dict_itemiterator", "dict_reverseitemiterator", "odict_iterator", "itertools.zip_longest", "itertools.pairwise"].contains n = false) (hQ : Q () s) : wpAny M A (letOwnedTupleGo tg (.ref it) u) Q E s := by
 unfold letOwnedTupleGo
 cases tg <;> first
   | exact wpAny_pure hQ
   | (cases u <;> first
       | exact wpAny_pure hQ
       | (refine wpAny_bind (wpAny_load ho ?_)
          rw [hc, hd]
          show wpAny M A (if (["enumerate", "zip", "dict_itemiterator", "dict_reverseitemiterator", "odict_iterator", "itertools.zip_longest", "itertools.pairwise"].contains n && vs[0]? == some (rawInt _)) = true then _ else _) Q E s
          rw [if_neg (by intro h; rw [hn, Bool.false_and] at h; cases h)]
          exact wpAny_pure hQ))
def Itl (K : PySem.W.Frag) (a : Addr) : It :=
 ⟨fun i H => ∃ xs x, SqL K H a xs ∧ xs[i]? = some x, fun i H x H' => H' = H ∧ ∀ xs, SqL K H a xs → xs[i]? = some x, fun i H => ∃ xs, SqL K H a xs ∧ xs.length ≤ i⟩
def Itt (K : PySem.W.Frag) (a : Addr) : It :=
 ⟨fun i H => ∃ xs x, SqT K H a xs ∧ xs[i]? = some x, fun i H x H' => H' = H ∧ ∀ xs, SqT K H a xs → xs[i]? = some x, fun i H => ∃ xs, SqT K H a xs ∧ xs.length ≤ i⟩
def Itr (lo : Int) (n : Nat) : It := ⟨fun i _ => i < n, fun i H x H' => H' = H ∧ x = .int (lo + i), fun i _ => n ≤ i⟩
theorem turn_list {P : Program} {w : World} {K : PySem.W.Frag} {tg : Expr} (a it : Addr) : Turn P w K tg (Itl K a) [it] it (fun i h => h.IsListIter it a i) where
 mem := by simp
 obj := fun i h st b hb => by
   have e : b = it := by simpa using hb
   subst e
   obtain ⟨o, e, c, d⟩ := st
   exact ⟨o, e, fun v z => by rw [d] at z; cases z⟩
 keep := fun i h h' st k => st.at fun o e => k it (by simp) o e
 item := by
   intro X hP hw hK hc i pins s σ H E I hf st hg
   subst hP hw hK
   obtain ⟨xs, x, hq, hx⟩ := hg
   obtain ⟨its, rv, p, hz⟩ := I.list hq
   obtain ⟨u, hu, ru⟩ := rv.get hx
   obtain ⟨f0, f1, f2, f3, f4, f5⟩ := hf it (by simp)
   refine wpAny_pyNext_list_item st p.isList (x := u) (by simpa using hu) fun h' st' sb => ?_
   have I1 : Inv X pins σ H { s with heap := h' } := I.turned (t' := s.toks) (fun b o hb e => (sb.2 b hb).trans e) f0 f1 f3 f4 f5
   obtain ⟨o, e, c, d⟩ := id st'
   exact ⟨u, rfl, go_of (s := { s with heap := h' }) e c d (by decide) ⟨x, H, I1, ru, ⟨rfl, fun ys hy => by rw [I.list_inj hy hq]; exact hx⟩, st', fun b hb => (hf b hb).1⟩⟩
 done := by
   intro X hP hw hK hc i pins s σ H E I hf st hg
   subst hP hw hK
   obtain ⟨xs, hq, hx⟩ := hg
   obtain ⟨its, rv, p, hz⟩ := I.list hq
   obtain ⟨f0, f1, f2, f3, f4, f5⟩ := hf it (by simp)
   have hl := rv.length
   exact wpAny_pyNext_list_end (I.ok.hd hc) st p.isList (by simp; omega) fun h' eb => ⟨rfl, I.turned (t' := s.toks) (fun b o hb e => eb b o hb e) f0 f1 f3 f4 f5⟩
 self := fun _ _ _ _ _ st h => wpAny_pyIter_listiter st h
theorem turn_tuple {P : Program} {w : World} {K : PySem.W.Frag} {tg : Expr} (a it : Addr) : Turn P w K tg (Itt K a) [it] it (fun i h => h.IsTupleIter it a i) where
 mem := by simp
 obj := fun i h st b hb => by
   have e : b = it := by simpa using hb
   subst e
   obtain ⟨o, e, c, d⟩ := st
   exact ⟨o, e, fun v z => by rw [d] at z; cases z⟩
 keep := fun i h h' st k => st.at fun o e => k it (by simp) o e
 item := by
   intro X hP hw hK hc i pins s σ H E I hf st hg
   subst hP hw hK
   obtain ⟨xs, x, hq, hx⟩ := hg
   obtain ⟨its, rv, p, hz⟩ := I.tuple hq
   obtain ⟨u, hu, ru⟩ := rv.get hx
   obtain ⟨f0, f1, f2, f3, f4, f5⟩ := hf it (by simp)
   refine wpAny_pyNext_tuple_item st (show s.heap.IsTuple a its.toArray from p) (x := u) (by simpa using hu) fun h' st' sb => ?_
   have I1 : Inv X pins σ H { s with heap := h' } := I.turned (t' := s.toks) (fun b o hb e => (sb.2 b hb).trans e) f0 f1 f3 f4 f5
   obtain ⟨o, e, c, d⟩ := id st'
   exact ⟨u, rfl, go_of (s := { s with heap := h' }) e c d (by decide) ⟨x, H, I1, ru, ⟨rfl, fun ys hy => by rw [I.tuple_inj hy hq]; exact hx⟩, st', fun b hb => (hf b hb).1⟩⟩
 done := by
   intro X hP hw hK hc i pins s σ H E I hf st hg
   subst hP hw hK
   obtain ⟨xs, hq, hx⟩ := hg
   obtain ⟨its, rv, p, hz⟩ := I.tuple hq
   obtain ⟨f0, f1, f2, f3, f4, f5⟩ := hf it (by simp)
   have hl := rv.length
   exact wpAny_pyNext_tuple_end (I.ok.hd hc) st (show s.heap.IsTuple a its.toArray from p) (by simp; omega) fun h' eb => ⟨rfl, I.turned (t' := s.toks) (fun b o hb e => eb b o hb e) f0 f1 f3 f4 f5⟩
 self := fun _ _ _ _ _ st h => wpAny_pyIter_tupleiter st h
theorem turn_range {P : Program} {w : World} {K : PySem.W.Frag} {tg : Expr} (it : Addr) (lo : Int) (n : Nat) : Turn P w K tg (Itr lo n) [it] it (fun i h => IsRangeIter h it (lo + (i : Nat) * 1) ((n : Int) - (i : Nat)) 1) where
 mem := by simp
 obj := fun i h st b hb => by
   have e : b = it := by simpa using hb
   subst e
   exact ⟨_, st, fun v z => by
     have z' : Data.fields _ = Data.cell v := z
     cases z'⟩
 keep := fun i h h' st k => k it (by simp) _ st
 item := by
   intro X hP hw hK hc i pins s σ H E I hf st hg
   subst hP hw hK
   obtain ⟨f0, f1, f2, f3, f4, f5⟩ := hf it (by simp)
   have W := Walks.range (prog := X.prog) (w := X.w) (I.ok.hd hc) it lo 1 n
   refine W.item i s _ _ hg st fun v h' tk hv st' kk => ?_
   obtain ⟨t, rfl⟩ := hv
   have I1 : Inv X pins σ H { s with heap := h', toks := tk } := I.turned (fun b o hb e => kk b o (by simpa using hb) e) f0 f1 f3 f4 f5
   refine ⟨_, rfl, go_of (s := { s with heap := h', toks := tk }) (n := "range_iterator") st' rfl rfl (by decide) ⟨.int (lo + i), H, I1, ⟨t, ?_⟩, ⟨rfl, rfl⟩, st', fun b hb => (hf b hb).1⟩⟩
   rw [Int.mul_one]
 done := by
   intro X hP hw hK hc i pins s σ H E I hf st hg
   subst hP hw hK
   obtain ⟨f0, f1, f2, f3, f4, f5⟩ := hf it (by simp)
   exact wpAny_pyNext_range_end (I.ok.hd hc) st (by have : n ≤ i := hg; omega) fun h' eb => ⟨rfl, I.turned (t' := s.toks) (fun b o hb e => eb b o hb e) f0 f1 f3 f4 f5⟩
 self := fun _ _ _ _ _ st h => wpAny_pyIter_rangeiter st h
end L2
namespace L2
open PySem PySem.Spec PyProof.Rows
section
variable {X : Cx} {tg : Expr}
def iList (K : PySem.W.Frag) (tl : TE) : TI := fun σ H R => tl σ H fun x H1 => ∃ a, x = .ref a ∧ (∃ xs, SqL K H1 a xs) ∧ R (Itl K a) H1
def iTup (K : PySem.W.Frag) (tl : TE) : TI := fun σ H R => tl σ H fun x H1 => ∃ a, x = .ref a ∧ (∃ xs, SqT K H1 a xs) ∧ R (Itt K a) H1
theorem pi_list {l : Expr} {tl : TE} (hl : PE X l tl) : PI X tg l (iList X.K tl) := by
 intro pins s σ H R I h
 refine thn (hl pins s σ H _ I h) fun v s1 ⟨x, H1, I1, r1, q1⟩ => ?_
 obtain ⟨a, e, ⟨xs, hq⟩, q⟩ := q1
 subst e
 cases r1
 obtain ⟨its, rv, p, hz⟩ := I1.list hq
 refine wpAny_pyIter_list p.isList ?_
 refine ⟨s1.heap.objs.size, [s1.heap.objs.size], _, _, H1, rfl, I1.kept (t' := s1.toks) fun b o e => Heap.get?_push_of_some _ e, turn_list a _, ⟨_, Heap.get?_push_size _ rfl, rfl, rfl⟩, fun b hb => ?_, q⟩
 have e : b = s1.heap.objs.size := by simpa using hb
 subst e
 exact I1.fpOk (Nat.le_refl _) (I1.hok.fresh (Nat.le_refl _))
theorem pi_tup {l : Expr} {tl : TE} (hl : PE X l tl) : PI X tg l (iTup X.K tl) := by
 intro pins s σ H R I h
 refine thn (hl pins s σ H _ I h) fun v s1 ⟨x, H1, I1, r1, q1⟩ => ?_
 obtain ⟨a, e, ⟨xs, hq⟩, q⟩ := q1
 subst e
 cases r1
 obtain ⟨its, rv, p, hz⟩ := I1.tuple hq
 refine wpAny_pyIter_tuple (show s1.heap.IsTuple a its.toArray from p) ?_
 refine ⟨s1.heap.objs.size, [s1.heap.objs.size], _, _, H1, rfl, I1.kept (t' := s1.toks) fun b o e => Heap.get?_push_of_some _ e, turn_tuple a _, ⟨_, Heap.get?_push_size _ rfl, rfl, rfl⟩, fun b hb => ?_, q⟩
 have e : b = s1.heap.objs.size := by simpa using hb
 subst e
 exact I1.fpOk (Nat.le_refl _) (I1.hok.fresh (Nat.le_refl _))
theorem range_it {pins : List (Addr × Obj)} {σ : St} {H : Hp} {s : Shared} {R : It → Hp → Prop} {E : Value → Shared → Prop} {lo hi : Int} {t u v : Tok} {tk : Nat} (I : Inv X pins σ H s) (h1 : -(2 ^ 62) ≤ lo) (h2 : lo < 2 ^ 62) (h3 : -(2 ^ 62) ≤ hi) (h4 : hi < 2 ^ 62)
   (q : R (Itr lo (hi - lo).toNat) H) : wpAny (model X.prog X.w) X.A (pyIter (.ref s.heap.objs.size)) (PIE X pins σ tg R) E { s with heap := s.heap.push { cls := .type "range", data := .fields #[.int lo t, .int hi u, .int 1 v] }, toks := tk } := by
 refine wpAny_pyIter_range (IsRange.new ..) (small_one h1 h2 h3 h4) ?_
 have I1 : Inv X pins σ H { s with heap := s.heap.push { cls := .type "range", data := .fields #[.int lo t, .int hi u, .int 1 v] }, toks := tk } := I.kept fun b o e => Heap.get?_push_of_some _ e
 refine ⟨(s.heap.push { cls := .type "range", data := .fields #[.int lo t, .int hi u, .int 1 v] }).objs.size, [(s.heap.push { cls := .type "range", data := .fields #[.int lo t, .int hi u, .int 1 v] }).objs.size], _, _, H, rfl,
   I1.kept (t' := tk) fun b o e => Heap.get?_push_of_some _ e, turn_range _ lo (hi - lo).toNat, ?_, fun b hb => ?_, q⟩
 · have e1 : lo + ((0 : Nat) : Int) * 1 = lo := by simp
   have e2 : (((hi - lo).toNat : Nat) : Int) - ((0 : Nat) : Int) = Builtin.Range.rangeSize lo hi 1 := by rw [rangeSize_one]; split <;> omega
   show IsRangeIter _ _ (lo + ((0 : Nat) : Int) * 1) ((((hi - lo).toNat : Nat) : Int) - ((0 : Nat) : Int)) 1
   rw [e1, e2]
   exact Heap.get?_push_size _ rfl
 · have e : b = (s.heap.push { cls := .type "range", data := .fields #[.int lo t, .int hi u, .int 1 v] }).objs.size := by simpa using hb
   subst e
   exact I1.fpOk (Nat.le_refl _) (I1.hok.fresh (Nat.le_refl _))
def iRng1 (ta : TA) : TI := fun σ H R => ta σ H fun vs H1 => ∃ j : Int, vs = [.int j] ∧ -(2 ^ 62) ≤ j ∧ j < 2 ^ 62 ∧ R (Itr 0 j.toNat) H1
theorem pi_range1 {a : Expr} {ta : TA} {p pos : Pos} (hg : Gl X "range") (hm : X.mg "range" = none) (ha : PA X [a] ta) (hs : starEach [a] X.env = [(false, eval a X.env)] := by rfl) : PI X tg (.Call (.Name "range" p) [a] [] pos) (iRng1 ta) := by
 intro pins s σ H R I h
 refine Call_ (ld_blt I hg hm boot_range (PyProof.Rows.callWith_type1 (thn (ha pos pins s σ H _ I h) fun us s1 ⟨vs, H1, I1, r1, q1⟩ => ?_) hs rfl))
 obtain ⟨j, e, q1, q2, q⟩ := q1
 subst e
 cases r1 with
 | cons r rr =>
   cases rr
   obtain ⟨t, rfl⟩ := r
   exact call_range_1 (range_it I1 (by omega) (by omega) q1 q2 (by simpa using q))
def tFor (wi : TI) (g : TG) (tb : TS) : TS := fun D σ H => wi σ H fun J H1 => ∃ W : Nat → Nat → St → Hp → Prop, (∃ m, W 0 m σ H1) ∧ ∀ i m σ H, W i m σ H →
 (J.stop i H ∧ D.nx σ H) ∨ (J.go i H ∧ ∃ N : St → Hp → Prop, (∀ σ' H', N σ' H' → ∃ m', m' < m ∧ W (i + 1) m' σ' H') ∧ ∀ x H', J.yld i H x H' → g x σ H' fun σ2 H2 => tb { D with nx := N, ct := N, bk := D.nx } σ2 H2)
def pinsAt (fp : List Addr) (h : Heap) : List (Addr × Obj) := fp.filterMap fun b => (h.get? b).map fun o => (b, o)
theorem mem_pinsAt {fp : List Addr} {h : Heap} {b : Addr} {o : Obj} (hb : b ∈ fp) (e : h.get? b = some o) : (b, o) ∈ pinsAt fp h := List.mem_filterMap.mpr ⟨b, hb, by rw [e]; rfl⟩
theorem of_pinsAt {fp : List Addr} {h : Heap} {p : Addr × Obj} (hp : p ∈ pinsAt fp h) : p.1 ∈ fp ∧ h.get? p.1 = some p.2 := by
 obtain ⟨b, hb, e⟩ := List.mem_filterMap.mp hp
 cases q : h.get? b with
 | none => rw [q] at e; cases e
 | some o =>
   rw [q] at e
   have e' : (b, o) = p := Option.some.inj e
   subst e'
   exact ⟨hb, q⟩
theorem Inv.pinned {pins : List (Addr × Obj)} {σ : St} {H : Hp} {s : Shared} {fp : List Addr} (I : Inv X pins σ H s) (hf : ∀ b ∈ fp, FpOk X pins H b) (ho : ∀ b ∈ fp, ∃ o, s.heap.get? b = some o ∧ ∀ v, o.data ≠ .cell v) : Inv X (pins ++ pinsAt fp s.heap) σ H s :=
 I.pins_of fun p hp => (List.mem_append.mp hp).elim (fun z => I.pin p (List.mem_append_right _ z)) fun z => by
   obtain ⟨hb, e⟩ := of_pinsAt z
   obtain ⟨f0, f1, f2, _⟩ := hf p.1 hb
   obtain ⟨o, e', d⟩ := ho p.1 hb
   rw [e] at e'; cases e'
   exact ⟨e, f0, f1, f2, d⟩
theorem Inv.unpinned {pins pl : List (Addr × Obj)} {σ : St} {H : Hp} {s : Shared} (I : Inv X (pins ++ pl) σ H s) : Inv X pins σ H s := I.pins_of fun p hp => I.pin p (List.mem_append_right _ (List.mem_append_left _ hp))
theorem ps_for {iter : Expr} {body : List Stmt} {wi : TI} {g : TG} {tb : TS} {pos : Pos} (hp : PassesOwn (model X.prog X.w) X.A X.env X.xe) (hc : X.calm = true) (hi : PI X tg iter wi) (hg : PG X tg g) (hb : PSs X body tb)
   (hs : ∀ x, foldedSetIterable iter X.env x = pure x := by intro _; rfl) : PS X (.For tg iter body [] pos) (tFor wi g tb) := by
 intro pins s σ H D I h
 refine wpAny_For (thn (hi pins s σ H _ I h) fun v s1 h1 => thn h1 fun itv s2 h2 => ?_) hs
 obtain ⟨it, fp, tn, J, H2, e, I2, T, st2, f2, W, ⟨m0, w0⟩, turn⟩ := h2
 subst e
 -- what stays true of the iterator's objects through the loop
 have stat : ∀ {H' : Hp}, (∀ b ∈ fp, H' b = none) → ∀ b ∈ fp, FpOk X pins H' b := fun hn b hb => ⟨hn b hb, (f2 b hb).2⟩
 refine codeAny_forLoop_any (fun n s' => ∃ i σ' H', Inv X pins σ' H' s' ∧ tn i s'.heap ∧ (∀ b ∈ fp, H' b = none) ∧ W i n σ' H') ?_ m0 ⟨0, σ, H2, I2, st2, fun b hb => (f2 b hb).1, w0⟩
 rintro n s3 ⟨i, σ3, H3, I3, st3, fr3, w3⟩
 rcases turn i n σ3 H3 w3 with ⟨stop, qn⟩ | ⟨go, N, hN, step⟩
 · refine wpAny_passesOwn hp (thn (T.done X rfl rfl rfl hc i pins s3 σ3 H3 X.xe I3 (stat fr3) st3 stop) fun r s4 ⟨hr, I4⟩ => ?_)
   subst hr
   exact wpAny_execs_nil ⟨σ3, H3, I4, qn⟩
 · refine wpAny_passesOwn hp (thn (T.item X rfl rfl rfl hc i pins s3 σ3 H3 X.xe I3 (stat fr3) st3 go) fun r s4 ⟨u, hr, h4⟩ => ?_)
   subst hr
   refine wpAny_passesOwn hp (thn h4 fun _ s5 ⟨x, H5, I5, r5, y5, st5, fr5⟩ => ?_)
   have I5' := I5.pinned (stat fr5) (T.obj _ _ st5)
   refine wpAny_passesOwn hp (thn (hg _ s5 σ3 H5 x u _ I5' r5 (step x H5 y5)) fun _ s6 ⟨σ6, H6, I6, q6⟩ => ?_)
   refine wpAny_passesOwn hp (thn (hb _ s6 σ6 H6 _ I6 q6) fun f s7 q7 => ?_)
   have again : ∀ {σ7 : St} {H7 : Hp}, Inv X (pins ++ pinsAt fp s5.heap) σ7 H7 s7 → N σ7 H7 → ∃ m, m < n ∧ ∃ i σ' H', Inv X pins σ' H' s7 ∧ tn i s7.heap ∧ (∀ b ∈ fp, H' b = none) ∧ W i m σ' H' := fun {σ7 H7} I7 n7 => by
     obtain ⟨m', hm, w7⟩ := hN σ7 H7 n7
     refine ⟨m', hm, i + 1, σ7, H7, I7.unpinned, T.keep _ _ _ st5 fun b hb o e => (I7.pin (b, o) (List.mem_append_right _ (List.mem_append_right _ (mem_pinsAt hb e)))).1, fun b hb => ?_, w7⟩
     obtain ⟨o, e, d⟩ := T.obj _ _ st5 b hb
     exact (I7.pin (b, o) (List.mem_append_right _ (List.mem_append_right _ (mem_pinsAt hb e)))).2.1
   cases f with
   | next => obtain ⟨σ7, H7, I7, n7⟩ := q7; exact again I7 n7
   | cont => obtain ⟨σ7, H7, I7, n7⟩ := q7; exact again I7 n7
   | brk => obtain ⟨σ7, H7, I7, q7⟩ := q7; exact ⟨σ7, H7, I7.unpinned, q7⟩
   | ret v => obtain ⟨x7, σ7, H7, I7, r7, q7⟩ := q7; exact ⟨x7, σ7, H7, I7.unpinned, r7, q7⟩
end
theorem for_list {K : PySem.W.Frag} {a : Addr} {xs : List V} {g : TG} {tb : TS} {D : Ends} {σ : St} {H : Hp} (Pv : Nat → St → Hp → Prop) (h0 : Pv 0 σ H) (hl : ∀ i σ H, i ≤ xs.length → Pv i σ H → SqL K H a xs)
   (hs : ∀ i x σ H, xs[i]? = some x → Pv i σ H → g x σ H fun σ2 H2 => tb { D with nx := Pv (i + 1), ct := Pv (i + 1), bk := D.nx } σ2 H2) (hd : ∀ σ H, Pv xs.length σ H → D.nx σ H) :
   ∃ W : Nat → Nat → St → Hp → Prop, (∃ m, W 0 m σ H) ∧ ∀ i m σ H, W i m σ H →
     ((Itl K a).stop i H ∧ D.nx σ H) ∨ ((Itl K a).go i H ∧ ∃ N : St → Hp → Prop, (∀ σ' H', N σ' H' → ∃ m', m' < m ∧ W (i + 1) m' σ' H') ∧ ∀ x H', (Itl K a).yld i H x H' → g x σ H' fun σ2 H2 => tb { D with nx := N, ct := N, bk := D.nx } σ2 H2) := by
 refine ⟨fun i m σ H => m = xs.length - i ∧ i ≤ xs.length ∧ Pv i σ H, ⟨xs.length, by simp, Nat.zero_le _, h0⟩, ?_⟩
 rintro i m σ H ⟨rfl, hi, p⟩
 have q := hl i σ H hi p
 by_cases hlt : i < xs.length
 · refine .inr ⟨⟨xs, xs[i], q, by simp [hlt]⟩, Pv (i + 1), fun σ' H' p' => ⟨xs.length - (i + 1), by omega, rfl, hlt, p'⟩, fun x H' y => ?_⟩
   obtain ⟨e, y⟩ := y
   subst e
   exact hs i x σ _ (y xs q) p
 · have e : i = xs.length := by omega
   subst e
   exact .inl ⟨⟨xs, q, Nat.le_refl _⟩, hd σ H p⟩
end L2
namespace L2
open PySem PySem.Spec PyProof.Rows
abbrev R2 := V → V → Hp → VK → Prop
def OpR (X : Cx) (f : Value → Value → Sem Value) (r : R2) : Prop :=
 ∀ (pins : List (Addr × Obj)) (s : Shared) (σ : St) (H : Hp) (x y : V) (v u : Value) (Q : VK), Inv X pins σ H s → RelV x v → RelV y u → r x y H Q →
   wpAny (model X.prog X.w) X.A (f v u) (EP X pins σ Q) X.xe s
def CallR (X : Cx) (f : Value) (r : List V → Hp → VK → Prop) : Prop :=
 ∀ (pins : List (Addr × Obj)) (s : Shared) (σ : St) (H : Hp) (xs : List V) (us : List Value) (Q : VK), Inv X pins σ H s → Vals xs us → r xs H Q →
   wpAny (model X.prog X.w) X.A (call f us) (EP X pins σ Q) X.xe s
def TruR (X : Cx) (r : V → Hp → (Bool → Hp → Prop) → Prop) : Prop :=
 ∀ (pins : List (Addr × Obj)) (s : Shared) (σ : St) (H : Hp) (x : V) (v : Value) (Q : Bool → Hp → Prop), Inv X pins σ H s → RelV x v → r x H Q →
   wpAny (model X.prog X.w) X.A (truthy v) (TP X pins σ Q) X.xe s
def tOp (r : R2) (ta tb : TE) : TE := fun σ H Q => ta σ H fun x H1 => tb σ H1 fun y H2 => r x y H2 Q
def rI (C : Int → Int → Prop) (g : Int → Int → V) : R2 := fun x y H Q => ∃ i j, x = .int i ∧ y = .int j ∧ C i j ∧ Q (g i j) H
def rI0 (g : Int → Int → V) : R2 := fun x y H Q => ∃ i j, x = .int i ∧ y = .int j ∧ Q (g i j) H
section
variable {X : Cx} {a b c : Expr} {ta tb tc : TE} {pos : Pos}
theorem binT (ha : PE X a ta) (hb : PE X b tb) {pins : List (Addr × Obj)} {s : Shared} {σ : St} {H : Hp} {R : V → V → Hp → Prop} (I : Inv X pins σ H s)
   (h : ta σ H fun x H1 => tb σ H1 fun y H2 => R x y H2) {Q : Value → Shared → Prop} {f : Value → Value → Sem Value}
   (hf : ∀ v u s2 x y H2, Inv X pins σ H2 s2 → RelV x v → RelV y u → R x y H2 → wpAny (model X.prog X.w) X.A (f v u) Q X.xe s2) :
   wpAny (model X.prog X.w) X.A (eval a X.env) (fun v s₁ => wpAny (model X.prog X.w) X.A (eval b X.env) (fun u s₂ => wpAny (model X.prog X.w) X.A (f v u) Q X.xe s₂) X.xe s₁) X.xe s := by
 refine thn (ha pins s σ H _ I h) fun v s1 ⟨x, H1, I1, r1, q1⟩ => ?_
 refine thn (hb pins s1 σ H1 _ I1 q1) fun u s2 ⟨y, H2, I2, r2, q2⟩ => ?_
 exact hf v u s2 x y H2 I2 r1 r2 q2
theorem pe_op {op : Operator} {r : R2} (ho : OpR X (binaryOp op) r) (ha : PE X a ta) (hb : PE X b tb) : PE X (.BinOp a op b pos) (tOp r ta tb) := by
 intro pins s σ H Q I h
 exact wpAny_BinOp (binT ha hb I h fun v u s2 x y H2 I2 rx ry q => ho pins s2 σ H2 x y v u Q I2 rx ry q)
theorem opI {f : Value → Value → Sem Value} {C : Int → Int → Prop} {g : Int → Int → Int}
   (rule : ∀ (i j : Int) (t u : Tok) (s : Shared) (Q : Value → Shared → Prop) (E : Value → Shared → Prop), C i j → Q (.int (g i j) s.toks) { s with toks := s.toks + 1 } → wpAny (model X.prog X.w) X.A (f (.int i t) (.int j u)) Q E s) :
   OpR X f (rI C fun i j => .int (g i j)) := by
 intro pins s σ H x y v u Q I rx ry h
 obtain ⟨i, j, rfl, rfl, hc, q⟩ := h
 obtain ⟨t, rfl⟩ := rx
 obtain ⟨t', rfl⟩ := ry
 exact rule i j t t' s _ _ hc ⟨.int (g i j), H, I.tok _, ⟨_, rfl⟩, q⟩
theorem opI0 {f : Value → Value → Sem Value} {g : Int → Int → Int}
   (rule : ∀ (i j : Int) (t u : Tok) (s : Shared) (Q : Value → Shared → Prop) (E : Value → Shared → Prop), Q (.int (g i j) s.toks) { s with toks := s.toks + 1 } → wpAny (model X.prog X.w) X.A (f (.int i t) (.int j u)) Q E s) :
   OpR X f (rI0 fun i j => .int (g i j)) := by
 intro pins s σ H x y v u Q I rx ry h
 obtain ⟨i, j, rfl, rfl, q⟩ := h
 obtain ⟨t, rfl⟩ := rx
 obtain ⟨t', rfl⟩ := ry
 exact rule i j t t' s _ _ ⟨.int (g i j), H, I.tok _, ⟨_, rfl⟩, q⟩
theorem opB0 {f : Value → Value → Sem Value} {g : Int → Int → Bool}
   (rule : ∀ (i j : Int) (t u : Tok) (s : Shared) (Q : Value → Shared → Prop) (E : Value → Shared → Prop), Q (.bool (g i j)) s → wpAny (model X.prog X.w) X.A (f (.int i t) (.int j u)) Q E s) :
   OpR X f (rI0 fun i j => .bl (g i j)) := by
 intro pins s σ H x y v u Q I rx ry h
 obtain ⟨i, j, rfl, rfl, q⟩ := h
 obtain ⟨t, rfl⟩ := rx
 obtain ⟨t', rfl⟩ := ry
 exact rule i j t t' s _ _ ⟨.bl (g i j), H, I, rfl, q⟩
def CDiv (i j : Int) : Prop := 0 < j ∧ j < 1073741824
def CPow (i j : Int) : Prop := 0 ≤ j ∧ j ≤ 1000000 ∧ i.natAbs < 2 ^ 64
def CMul (i j : Int) : Prop := (-(2 ^ 64) < i ∧ i < 2 ^ 64) ∨ (-(2 ^ 64) < j ∧ j < 2 ^ 64)
theorem CMul.ok {i j : Int} (h : CMul i j) : IntMulOk i j := by
 rcases h with ⟨h1, h2⟩ | ⟨h1, h2⟩
 · exact .of_left (intBits_le_64 h1 h2)
 · exact .of_right (intBits_le_64 h1 h2)
theorem op_add : OpR X (binaryOp .Add) (rI0 fun i j => .int (i + j)) := opI0 fun _ _ _ _ _ _ _ q => add_int q
theorem op_sub : OpR X (binaryOp .Sub) (rI0 fun i j => .int (i - j)) := opI0 fun _ _ _ _ _ _ _ q => sub_int q
theorem op_mul : OpR X (binaryOp .Mult) (rI CMul fun i j => .int (i * j)) := opI fun _ _ _ _ _ _ _ hc q => mul_int q hc.ok
theorem op_fdiv : OpR X (binaryOp .FloorDiv) (rI CDiv fun i j => .int (i / j)) := opI fun i j _ _ _ _ _ hc q => by
 have h1 : (0 : Int) < j := hc.1
 have h2 : j < 1073741824 := hc.2
 exact floordiv_int (by omega) (by rw [Int.fdiv_eq_ediv_of_nonneg i (by omega)]; exact q) (.inl (PyProof.noPylong_small (by omega)))
theorem op_mod : OpR X (binaryOp .Mod) (rI (fun _ j => 0 < j) fun i j => .int (i % j)) := opI fun i j _ _ _ _ _ hc q => by
 have h1 : (0 : Int) < j := hc
 exact mod_int' (by omega) (by rw [Int.fmod_eq_emod_of_nonneg i (by omega)]; exact q)
theorem op_pow : OpR X (binaryOp .Pow) (rI CPow fun i j => .int (i ^ j.toNat)) := opI fun _ _ _ _ _ _ _ hc q => pow_int_small hc.1 hc.2.1 hc.2.2 q
end
def scal : V → V → Bool
 | .non, .non => true | .non, .int _ => true | .int _, .non => true | .non, .bl _ => true | .bl _, .non => true | .non, .str _ => true | .str _, .non => true
 | .int _, .int _ => true | .bl _, .bl _ => true | .str _, .str _ => true | .byt _, .byt _ => true
 | .int _, .str _ => true | .str _, .int _ => true | .bl _, .str _ => true | .str _, .bl _ => true
 | _, _ => false
def rEq : R2 := fun x y H Q => scal x y = true ∧ Q (.bl (decide (x = y))) H
theorem dec_int {i j : Int} : decide (V.int i = V.int j) = (i == j) := by
 rw [Bool.eq_iff_iff]
 simp
theorem dec_bl {i j : Bool} : decide (V.bl i = V.bl j) = (i == j) := by
 rw [Bool.eq_iff_iff]
 simp
theorem dec_str {i j : Str} : decide (V.str i = V.str j) = (i == j) := by
 rw [Bool.eq_iff_iff]
 simp
theorem dec_byt {i j : Array UInt8} : decide (V.byt i = V.byt j) = (i.toList == j.toList) := by
 rw [Bool.eq_iff_iff]
 cases i
 cases j
 simp
section
variable {X : Cx} {a b c : Expr} {ta tb tc : TE} {pos : Pos}
theorem fin_bl {pins : List (Addr × Obj)} {σ : St} {H : Hp} {s : Shared} {Q : VK} {k k' : Bool} (I : Inv X pins σ H s) (q : Q (.bl k) H) (e : k = k') : EP X pins σ Q (.bool k') s := by
 subst e
 exact ⟨.bl k, H, I, rfl, q⟩
theorem op_eq : OpR X (compareOp .Eq) rEq := by
 intro pins s σ H x y v u Q I rx ry h
 obtain ⟨hs, q⟩ := h
 cases x with
 | non =>
   cases rx
   cases y with
   | non => cases ry; exact PySem.EqNone.eq_none_none (fin_bl I q (by simp))
   | bl j => cases ry; exact PySem.EqNone.eq_none_bool (fin_bl I q (by simp))
   | int j => obtain ⟨t', rfl⟩ := ry; exact PySem.EqNone.eq_none_int (fin_bl I q (by simp))
   | str j => obtain ⟨t', rfl⟩ := ry; exact PySem.EqNone.eq_none_str (fin_bl I q (by simp))
   | _ => exact absurd (show false = true from hs) Bool.false_ne_true
 | bl i =>
   cases rx
   cases y with
   | non => cases ry; exact PySem.EqNone.eq_bool_none (fin_bl I q (by simp))
   | bl j => cases ry; exact eq_bool (fin_bl I q dec_bl)
   | str j => obtain ⟨t', rfl⟩ := ry; exact PySem.EqMixed.eq_bool_str (fin_bl I q (by simp))
   | _ => exact absurd (show false = true from hs) Bool.false_ne_true
 | int i =>
   obtain ⟨t, rfl⟩ := rx
   cases y with
   | non => cases ry; exact PySem.EqNone.eq_int_none (fin_bl I q (by simp))
   | int j => obtain ⟨t', rfl⟩ := ry; exact eq_int (fin_bl I q dec_int)
   | str j => obtain ⟨t', rfl⟩ := ry; exact PySem.EqMixed.eq_int_str (fin_bl I q (by simp))
   | _ => exact absurd (show false = true from hs) Bool.false_ne_true
 | str i =>
   obtain ⟨t, rfl⟩ := rx
   cases y with
   | non => cases ry; exact PySem.EqNone.eq_str_none (fin_bl I q (by simp))
   | bl j => cases ry; exact PySem.EqMixed.eq_str_bool (fin_bl I q (by simp))
   | int j => obtain ⟨t', rfl⟩ := ry; exact PySem.EqMixed.eq_str_int (fin_bl I q (by simp))
   | str j => obtain ⟨t', rfl⟩ := ry; exact eq_str (fin_bl I q dec_str)
   | _ => exact absurd (show false = true from hs) Bool.false_ne_true
 | byt i =>
   obtain ⟨t, rfl⟩ := rx
   cases y with
   | byt j => obtain ⟨t', rfl⟩ := ry; exact PySem.W.eq_bytes (fin_bl I q dec_byt)
   | _ => exact absurd (show false = true from hs) Bool.false_ne_true
 | _ => cases y <;> exact absurd (show false = true from hs) Bool.false_ne_true
theorem op_lt : OpR X (compareOp .Lt) (rI0 fun i j => .bl (decide (i < j))) := opB0 fun _ _ _ _ _ _ _ q => lt_int q
theorem op_le : OpR X (compareOp .LtE) (rI0 fun i j => .bl (decide (i ≤ j))) := opB0 fun _ _ _ _ _ _ _ q => le_int q
theorem op_gt : OpR X (compareOp .Gt) (rI0 fun i j => .bl (decide (j < i))) := opB0 fun _ _ _ _ _ _ _ q => gt_int q
theorem op_ge : OpR X (compareOp .GtE) (rI0 fun i j => .bl (decide (j ≤ i))) := opB0 fun _ _ _ _ _ _ _ q => ge_int q
theorem OpR.or {f : Value → Value → Sem Value} {r r' : R2} (h : OpR X f r) (h' : OpR X f r') : OpR X f (fun x y H Q => r x y H Q ∨ r' x y H Q) := by
 intro pins s σ H x y v u Q I rx ry q
 rcases q with q | q
 · exact h pins s σ H x y v u Q I rx ry q
 · exact h' pins s σ H x y v u Q I rx ry q
theorem nomark (b : Expr) {op : CmpOp} (h : op ≠ .In := by decide) (h2 : op ≠ .NotIn := by decide) : behindInMarks op b = false := by
 have e1 : (op == CmpOp.In) = false := by cases op <;> first | rfl | exact absurd rfl h
 have e2 : (op == CmpOp.NotIn) = false := by cases op <;> first | rfl | exact absurd rfl h2
 cases b <;> simp [behindInMarks, e1, e2]
theorem pe_cmpR {op : CmpOp} {r : R2} (ho : OpR X (compareOp op) r) (ha : PE X a ta) (hb : PE X b tb) (hm : behindInMarks op b = false) : PE X (.Compare a [op] [b] pos) (tOp r ta tb) := by
 intro pins s σ H Q I h
 exact wpAny_Compare1 (binT ha hb I h fun v u s2 x y H2 I2 rx ry q => ho pins s2 σ H2 x y v u Q I2 rx ry q) hm
def tTest (t : TE) : TT := fun σ H Q => t σ H fun x H' => ∃ k, x = .bl k ∧ Q k H'
theorem pt_cmpR {op : CmpOp} {r : R2} (ho : OpR X (compareOp op) r) (ha : PE X a ta) (hb : PE X b tb) (hm : behindInMarks op b = false) : PT X (.Compare a [op] [b] pos) (tTest (tOp r ta tb)) := by
 intro pins s σ H Q I h
 refine wpAny_isTrue_Compare1 (thn (ha pins s σ H _ I h) fun v s1 ⟨x, H1, I1, r1, q1⟩ => thn (hb pins s1 σ H1 _ I1 q1) fun u s2 ⟨y, H2, I2, r2, q2⟩ =>
   thn (ho pins s2 σ H2 x y v u _ I2 r1 r2 q2) fun c s3 ⟨z, H3, I3, r3, k, e, q3⟩ => ?_) hm
 subst e
 cases r3
 exact wpAny_truthy_bool ⟨H3, I3, q3⟩
def tChain (r r' : R2) (ta tb tc : TE) : TE := fun σ H Q => ta σ H fun x H1 => tb σ H1 fun y H2 => r x y H2 fun z H3 => ∃ k, z = .bl k ∧
 (if k = true then tc σ H3 fun w' H4 => r' y w' H4 Q else Q (.bl false) H3)
theorem pe_chain {op op' : CmpOp} {r r' : R2} (ho : OpR X (compareOp op) r) (ho' : OpR X (compareOp op') r') (ha : PE X a ta) (hb : PE X b tb) (hc : PE X c tc)
   (hm : lastMarks [op, op'] [b, c] = false := by with_unfolding_all rfl) : PE X (.Compare a [op, op'] [b, c] pos) (tChain r r' ta tb tc) := by
 intro pins s σ H Q I h
 refine Compare_chain (thn (ha pins s σ H _ I h) fun v s1 ⟨x, H1, I1, r1, q1⟩ => chain_link (thn (hb pins s1 σ H1 _ I1 q1) fun u s2 ⟨y, H2, I2, r2, q2⟩ =>
   thn (ho pins s2 σ H2 x y v u _ I2 r1 r2 q2) fun d s3 ⟨z, H3, I3, r3, k, e, q3⟩ => ?_)) hm
 subst e
 cases r3
 refine wpAny_truthy_bool ?_
 cases k with
 | false => exact ite_ff ⟨.bl false, H3, I3, rfl, q3⟩
 | true => exact ite_tt (chain_last (thn (hc pins s3 σ H3 _ I3 q3) fun w' s4 ⟨z', H4, I4, r4, q4⟩ => ho' pins s4 σ H4 y z' u w' Q I4 r2 r4 q4))
def TruV (K : PySem.W.Frag) (x : V) (H : Hp) (k : Bool) : Prop :=
 match x with
 | .non => k = false
 | .bl b => k = b
 | .int i => k = (i != 0)
 | .str y => y.length ≤ sizeLine ∧ k = ((y.length : Int) != 0)
 | .byt y => y.size ≤ sizeLine ∧ k = ((y.size : Int) != 0)
 | .ref p => (∃ xs, SqL K H p xs ∧ k = !xs.isEmpty) ∨ (∃ xs, SqT K H p xs ∧ k = !xs.isEmpty) ∨ ∃ kvs, H p = some (.dK kvs) ∧ k = !kvs.isEmpty
 | _ => False
theorem isEmpty_kv {κ : Type} {kvs : List (κ × V)} {vs : List (κ × Value)} (r : KV kvs vs) : (!vs.isEmpty) = !kvs.isEmpty := by
 cases r <;> rfl
theorem isEmpty_of {xs : List V} {its : List Value} (r : Vals xs its) : (!its.toArray.isEmpty) = !xs.isEmpty := by
 cases r <;> simp
theorem line63 : (sizeLine : Nat) < 2 ^ 63 := by rw [sizeLine_eq]; decide
theorem tru_ok : TruR X (fun x H Q => ∃ k, TruV X.K x H k ∧ Q k H) := by
 intro pins s σ H x v Q I rx h
 obtain ⟨k, e, q⟩ := h
 have hl := line63
 have hs : sizeLine = 16777216 := sizeLine_eq
 cases x with
 | non =>
   cases rx
   have e' : k = false := e
   subst e'
   exact truthy_none ⟨H, I, q⟩
 | bl b =>
   cases rx
   have e' : k = b := e
   subst e'
   exact wpAny_truthy_bool ⟨H, I, q⟩
 | int i =>
   obtain ⟨t, rfl⟩ := rx
   have e' : k = (i != 0) := e
   subst e'
   exact PySem.P.truthy_int ⟨H, I, q⟩
 | str y =>
   obtain ⟨t, rfl⟩ := rx
   obtain ⟨hy, e'⟩ : y.length ≤ sizeLine ∧ k = ((y.length : Int) != 0) := e
   subst e'
   exact PySem.P.truthy_str (by omega) ⟨H, I.tok _, q⟩
 | byt y =>
   obtain ⟨t, rfl⟩ := rx
   obtain ⟨hy, e'⟩ : y.size ≤ sizeLine ∧ k = ((y.size : Int) != 0) := e
   subst e'
   exact PySem.W.truthy_bytes (by omega) ⟨H, I.tok _, q⟩
 | ref p =>
   cases rx
   have e' : (∃ xs, SqL X.K H p xs ∧ k = !xs.isEmpty) ∨ (∃ xs, SqT X.K H p xs ∧ k = !xs.isEmpty) ∨ ∃ kvs, H p = some (.dK kvs) ∧ k = !kvs.isEmpty := e
   rcases e' with ⟨xs, hx, e'⟩ | ⟨xs, hx, e'⟩ | ⟨kvs, hx, e'⟩
   · subst e'
     obtain ⟨its, r, pl, hz⟩ := I.list hx
     have hlen := r.length
     exact wpAny_truthy_list pl.isList (by simp only [List.size_toArray]; omega) ⟨H, I.tok _, by rw [isEmpty_of r]; exact q⟩
   · subst e'
     obtain ⟨its, r, pl, hz⟩ := I.tuple hx
     have hlen := r.length
     exact truthy_tuple pl (by simp only [List.size_toArray]; omega) ⟨H, I.tok _, by rw [isEmpty_of r]; exact q⟩
   · subst e'
     obtain ⟨hz, hS, vs, r, m⟩ : kvs.length ≤ sizeLine ∧ (p == sysModules) = false ∧ ∃ vs, KV kvs vs ∧ s.heap.DictOf (mixKind X.prog X.w) p vs := I.hok p _ hx
     have hlen : kvs.length = vs.length := Paired.length r
     exact wpAny_truthy_dict hS m (by omega) ⟨H, I.tok _, by rw [isEmpty_kv r]; exact q⟩
 | _ => exact (show False from e).elim
theorem pt_truth (ha : PE X a ta) (he : ∀ whole, isTrue a X.env whole = (do let v ← whole; standAt a.pos; holding [v] (truthy v))) :
   PT X a (fun σ H Q => ta σ H fun x H' => ∃ k, TruV X.K x H' k ∧ Q k H') := by
 intro pins s σ H Q I h
 exact isTrue_plain (thn (ha pins s σ H _ I h) fun v s1 ⟨x, H1, I1, r1, q1⟩ => tru_ok pins s1 σ H1 x v Q I1 r1 q1) (he _)
theorem op_add_str : OpR X (binaryOp .Add) (fun x y H Q => ∃ i j, x = .str i ∧ y = .str j ∧ i.length + j.length ≤ sizeLine ∧ Q (.str (i ++ j)) H) := by
 intro pins s σ H x y v u Q I rx ry h
 obtain ⟨i, j, rfl, rfl, hz, q⟩ := h
 obtain ⟨t, rfl⟩ := rx
 obtain ⟨t', rfl⟩ := ry
 exact add_str (fun t' tk => ⟨.str (i ++ j), H, I.tok _, ⟨_, rfl⟩, q⟩) hz
theorem vals1 {x : V} {us : List Value} (r : Vals [x] us) : ∃ u, us = [u] ∧ RelV x u := by
 cases r with
 | cons r1 r2 => cases r2; exact ⟨_, rfl, r1⟩
theorem vals2 {x y : V} {us : List Value} (r : Vals [x, y] us) : ∃ u w', us = [u, w'] ∧ RelV x u ∧ RelV y w' := by
 cases r with
 | cons r1 r2 =>
   cases r2 with
   | cons r3 r4 => cases r4; exact ⟨_, _, rfl, r1, r3⟩
theorem call_max2 (hc : X.calm = true) : CallR X (.builtin "max") (fun xs H Q => ∃ i j, xs = [.int i, .int j] ∧ Q (.int (if j > i then j else i)) H) := by
 intro pins s σ H xs us Q I r h
 obtain ⟨i, j, rfl, q⟩ := h
 obtain ⟨u, w', rfl, ⟨t, rfl⟩, ⟨t', rfl⟩⟩ := vals2 r
 refine max_two_ints (I.ok.hd hc) fun h' tk k => ⟨_, H, I.kept k, ?_, q⟩
 by_cases hj : j > i
 · rw [if_pos hj, if_pos hj]; exact ⟨_, rfl⟩
 · rw [if_neg hj, if_neg hj]; exact ⟨_, rfl⟩
theorem call_int1 : CallR X (.type "int") (fun xs H Q => (∃ i, xs = [.int i] ∧ Q (.int i) H) ∨ ∃ k, xs = [.bl k] ∧ Q (.int (if k then 1 else 0)) H) := by
 intro pins s σ H xs us Q I r h
 rcases h with ⟨i, rfl, q⟩ | ⟨k, rfl, q⟩
 · obtain ⟨u, rfl, t, rfl⟩ := vals1 r
   exact call_int_int ⟨.int i, H, I, ⟨_, rfl⟩, q⟩
 · obtain ⟨u, rfl, r1⟩ := vals1 r
   cases r1
   exact call_int_bool ⟨.int (if k then 1 else 0), H, I.tok _, ⟨_, rfl⟩, q⟩
def LenV (K : PySem.W.Frag) (x : V) (H : Hp) (n : Nat) : Prop :=
 match x with
 | .str y => y.length ≤ sizeLine ∧ n = y.length
 | .byt y => y.size ≤ sizeLine ∧ n = y.size
 | .ref p => (∃ xs, SqL K H p xs ∧ n = xs.length) ∨ ∃ xs, SqT K H p xs ∧ n = xs.length
 | _ => False
theorem call_len : CallR X (.builtin "len") (fun xs H Q => ∃ x n, xs = [x] ∧ LenV X.K x H n ∧ Q (.int n) H) := by
 intro pins s σ H xs us Q I r h
 obtain ⟨x, n, rfl, e, q⟩ := h
 obtain ⟨u, rfl, rx⟩ := vals1 r
 have hl := line63
 have hs : sizeLine = 16777216 := sizeLine_eq
 cases x with
 | str y =>
   obtain ⟨t, rfl⟩ := rx
   obtain ⟨hy, e'⟩ : y.length ≤ sizeLine ∧ n = y.length := e
   subst e'
   exact len_str (by omega) ⟨.int _, H, I.tok _, ⟨_, rfl⟩, q⟩
 | byt y =>
   obtain ⟨t, rfl⟩ := rx
   obtain ⟨hy, e'⟩ : y.size ≤ sizeLine ∧ n = y.size := e
   subst e'
   exact PySem.W.len_bytes (by omega) ⟨.int _, H, I.tok _, ⟨_, rfl⟩, q⟩
 | ref p =>
   cases rx
   have e' : (∃ xs, SqL X.K H p xs ∧ n = xs.length) ∨ ∃ xs, SqT X.K H p xs ∧ n = xs.length := e
   rcases e' with ⟨xs, hx, e'⟩ | ⟨xs, hx, e'⟩
   · subst e'
     obtain ⟨its, r', pl, hz⟩ := I.list hx
     have hlen := r'.length
     exact Calls.call_len_list pl.isList (by simp only [List.size_toArray]; omega) ⟨.int xs.length, H, I.tok _, ⟨_, by simp only [List.size_toArray]; rw [hlen]⟩, q⟩
   · subst e'
     obtain ⟨its, r', pl, hz⟩ := I.tuple hx
     have hlen := r'.length
     exact len_tuple pl (by simp only [List.size_toArray]; omega) ⟨.int xs.length, H, I.tok _, ⟨_, by simp only [List.size_toArray]; rw [hlen]⟩, q⟩
 | _ => exact (show False from e).elim
end
end L2
namespace L2
open PySem PySem.Spec PyProof.Rows
structure ObjM (h : Heap) (x dx C : Addr) (mA : Str → Option Value) : Prop where
 obj : h.get? x = some (PySem.W.instObj C dx)
 ns : h.Ns1 dx mA
 ne : dx ≠ x
theorem lookIn_ns {h : Heap} {dx : Addr} {mA : Str → Option Value} (n : h.Ns1 dx mA) : ∃ od, h.get? dx = some od ∧ ∀ name, PySem.W.lookIn name od = some (mA name) := by
 obtain ⟨o, es, ep, ho, hd, hk, _, hm⟩ := n
 refine ⟨o, ho, fun name => ?_⟩
 have e := hm name
 unfold nsFind findBy at e
 rw [← Array.find?_toList] at e
 unfold PySem.W.lookIn
 rw [hd]
 dsimp only
 split
 · rename_i y q
   rw [q] at e
   exact congrArg some e
 · rename_i q
   rw [q] at e
   have a : es.toList.any (·.refKey) = false := by
     rw [List.any_eq_false]
     intro y hy
     obtain ⟨z, t, hkey⟩ := hk y (Array.mem_toList_iff.mp hy)
     simp [DictEntry.refKey, hkey]
   have a' : ¬ es.toList.any (·.refKey) = true := by rw [a]; exact Bool.false_ne_true
   rw [if_neg a']
   exact congrArg some e
theorem ObjM.look {h : Heap} {x dx C : Addr} {mA : Str → Option Value} (I : ObjM h x dx C mA) : ∃ od, PySem.W.InstAt h x (PySem.W.instObj C dx) C (some od) ∧ ∀ name, PySem.W.lookIn name od = some (mA name) :=
 let ⟨od, ho, hl⟩ := lookIn_ns I.ns
 ⟨od, ⟨I.obj, rfl, rfl, ho⟩, hl⟩
theorem RelO.some_of {v : V} {o : Option Value} (r : RelO (some v) o) : ∃ u, o = some u ∧ RelV v u := by
 cases o with
 | none => exact (show False from r).elim
 | some u => exact ⟨u, rfl, r⟩
section
variable {P : Program} {w : World} {H H' : Hp} {h h' : Heap} {a C dx : Addr} {fs fs' : List (Str × V)}
theorem ins_get (hok : HOk P w H h) (e : H a = some (.ins C dx fs)) : ∃ mA, ObjM h a dx C mA ∧ (∀ f, RelO (fs.lookup f) (mA f)) ∧ PySem.Within mA (fs.map (·.1)) ∧ fs.length ≤ 1000 ∧ H dx = some (.own a) := by
 obtain ⟨d, z, ne, ob, mA, n, r, q⟩ := (show ObjOk P w H h a (.ins C dx fs) from hok a _ e)
 exact ⟨mA, ⟨ob, n, ne⟩, r, q, z, d⟩
end
structure Cls (K : PySem.W.Frag) (C : Addr) : Prop where
 pg : PySem.W.plainGet K C Str.empty = true
 hd : PySem.W.hasDictIn K C = true
 po : PySem.W.plainOver K C = true
 sa : PySem.W.findIn K (.ref C) "__setattr__" = some (some (.builtin "object.__setattr__"))
theorem Cls.get {K : PySem.W.Frag} {C : Addr} (c : Cls K C) (f : Str) : PySem.W.plainGet K C f = true := c.pg
section
variable {X : Cx} {pins : List (Addr × Obj)} {σ : St} {H : Hp} {s : Shared} {A : Around} {E : Value → Shared → Prop} {Q : Value → Shared → Prop} {c : Value} {b : Bool}
inductive TyOf (K : PySem.W.Frag) (H : Hp) : V → Value → Prop where
 | non : TyOf K H .non (.type "NoneType")
 | bl (x : Bool) : TyOf K H (.bl x) (.type "bool")
 | int (i : Int) : TyOf K H (.int i) (.type "int")
 | str (x : Str) : TyOf K H (.str x) (.type "str")
 | flt (x : UInt64) : TyOf K H (.flt x) (.type "float")
 | lst {a : Addr} {xs : List V} (e : H a = some (.lst xs)) : TyOf K H (.ref a) (.type "list")
 | frz {a : Addr} {o : Obj} {xs : List V} (e : H a = some (.frz o (.lst xs))) : TyOf K H (.ref a) (.type "list")
 | tup {a : Addr} {xs : List V} (e : H a = some (.tup xs)) : TyOf K H (.ref a) (.type "tuple")
 | dK {a : Addr} {kvs : List (Key × V)} (e : H a = some (.dK kvs)) : TyOf K H (.ref a) (.type "dict")
 | dT {a : Addr} {kvs : List (List Key × V)} (e : H a = some (.dT kvs)) : TyOf K H (.ref a) (.type "dict")
 | ins {a C dx : Addr} {fs : List (Str × V)} (e : H a = some (.ins C dx fs)) (cl : Cls K C) (ha : PySem.W.findIn K (.ref C) "__class__" = some (some (.builtin "object.__class__")))
     (hn : PySem.W.specialIn K (.builtin "object.__class__") "__get__" = some (some (.builtin "getset_descriptor.__get__"))) (htk : PySem.W.takesIn K (.builtin "object.__class__") = some true)
     (hm : PySem.W.mroIn K C (.type "object") = some true) : TyOf K H (.ref a) (.ref C)
theorem isinst_ok {x : V} {u t : Value} (I : Inv X pins σ H s) (rx : RelV x u) (ty : TyOf X.K H x t) (e : PySem.W.kitOne X.K t c = some b) (h : ∀ tk, Q (.bool b) { s with toks := tk }) :
   wpAny (model X.prog X.w) A (call (.builtin "isinstance") [u, c]) Q E s := by
 cases ty with
 | non => cases (show u = Value.none from rx); exact PySem.W.kia_one PySem.W.kitx_none I.kIn True.intro e (fun z => nomatch z) h
 | bl y => cases (show u = Value.bool y from rx); exact PySem.W.kia_one PySem.W.kitx_bool I.kIn True.intro e (fun z => nomatch z) h
 | int i => obtain ⟨t, q⟩ := (show ∃ t, u = Value.int i t from rx); cases q; exact PySem.W.kia_one PySem.W.kitx_int I.kIn True.intro e (fun z => nomatch z) h
 | str y => obtain ⟨t, q⟩ := (show ∃ t, u = Value.str y t from rx); cases q; exact PySem.W.kia_one PySem.W.kitx_str I.kIn True.intro e (fun z => nomatch z) h
 | flt y => obtain ⟨t, q⟩ := (show ∃ t, u = Value.float y t from rx); cases q; exact PySem.W.kia_one PySem.W.kitx_float I.kIn True.intro e (fun z => nomatch z) h
 | @lst a xs ea =>
   cases (show u = Value.ref a from rx)
   obtain ⟨_, _, n, _, h1⟩ := (show ObjOk X.prog X.w H s.heap a (.lst xs) from I.hok a _ ea)
   exact PySem.W.kia_one PySem.W.kitx_list I.kIn ⟨_, h1, rfl⟩ e (fun z => nomatch z) h
 | @frz a ob xs ea =>
   cases (show u = Value.ref a from rx)
   obtain ⟨_, _, _, n, _, h1⟩ := (show ObjOk X.prog X.w H s.heap a (.frz ob (.lst xs)) from I.hok a _ ea)
   exact PySem.W.kia_one PySem.W.kitx_list I.kIn ⟨_, h1, rfl⟩ e (fun z => nomatch z) h
 | @tup a xs ea =>
   cases (show u = Value.ref a from rx)
   obtain ⟨_, _, _, p⟩ := (show ObjOk X.prog X.w H s.heap a (.tup xs) from I.hok a _ ea)
   obtain ⟨o, h1, h2, _⟩ := p
   exact PySem.W.kia_one PySem.W.kitx_tuple I.kIn ⟨o, h1, h2⟩ e (fun z => nomatch z) h
 | @dK a kvs ea =>
   cases (show u = Value.ref a from rx)
   obtain ⟨_, _, vs, _, p⟩ := (show ObjOk X.prog X.w H s.heap a (.dK kvs) from I.hok a _ ea)
   obtain ⟨o, es, ep, h1, h2, _⟩ := p
   exact PySem.W.kia_one PySem.W.kitx_dict I.kIn ⟨o, h1, h2.1⟩ e (fun z => nomatch z) h
 | @dT a kvs ea =>
   cases (show u = Value.ref a from rx)
   obtain ⟨_, _, xs, _, o, es, ep, h1, h2, _⟩ := (show ObjOk X.prog X.w H s.heap a (.dT kvs) from I.hok a _ ea)
   exact PySem.W.kia_one PySem.W.kitx_dict I.kIn ⟨o, h1, h2.1⟩ e (fun z => nomatch z) h
 | @ins a C dx fs ea cl ha hn htk hm =>
   cases (show u = Value.ref a from rx)
   obtain ⟨mA, O, _⟩ := ins_get I.hok ea
   obtain ⟨od, J, _⟩ := O.look
   exact PySem.W.kia_one (PySem.W.kitx_own (cl.get _) cl.hd ha hn htk hm) I.kIn J e (fun z => nomatch z) h
end
end L2
namespace L2
open PySem PySem.Spec PyProof.Rows
structure Room (k : Nat) (A : Around) : Prop where
 hd : A.handled = none
 dp : A.depth + 3 * k + 5 < recursionLimit
 un : A.units + 16 * k + 200 < cLine
 gd : A.guards = some []
theorem Room.mono {j k : Nat} {A : Around} (r : Room k A) (h : j ≤ k) : Room j A := ⟨r.hd, by have := r.dp; omega, by have := r.un; omega, r.gd⟩
theorem Room.deeper {k : Nat} {A : Around} (r : Room (k + 1) A) (env : Env) : Room k (A.deeper env) :=
 ⟨r.hd, by have := r.dp; show A.depth + 1 + 3 * k + 5 < _; omega, by have := r.un; show A.units + 3 + 16 * k + 200 < _; omega, r.gd⟩
theorem Room.depth {k : Nat} {A : Around} (r : Room k A) : A.depth < recursionLimit := by have := r.dp; omega
theorem Room.units {k : Nat} {A : Around} (r : Room k A) : A.units + 64 < cLine := by have := r.un; omega
def tNil : TA := fun _ H Q => Q [] H
def tCons (ta : TE) (tr : TA) : TA := fun σ H Q => ta σ H fun x H1 => tr σ H1 fun xs H2 => Q (x :: xs) H2
section
variable {X : Cx} {e : Expr} {es : List Expr} {te : TE} {t : TA} {pos : Pos}
theorem pa_nil : PA X [] tNil := fun _ _ _ _ H Q I h => Calls.spliced_nil ⟨[], H, I, .nil, h⟩
theorem pa_cons (ha : PE X e te) (hr : PA X es t) (hs : starEach (e :: es) X.env = (false, eval e X.env) :: starEach es X.env := by rfl) : PA X (e :: es) (tCons te t) := by
 intro pos pins s σ H Q I h
 rw [hs]
 show wpAny _ _ (spliced ((false, eval e X.env) :: backTo pos (starEach es X.env))) _ _ s
 refine Calls.spliced_cons (thn (ha pins s σ H _ I h) fun u s1 ⟨x, H1, I1, r1, q1⟩ => ?_)
 exact thn (hr pos pins s1 σ H1 _ I1 q1) fun us s2 ⟨xs, H2, I2, r2, q2⟩ => ⟨x :: xs, H2, I2, .cons r1 r2, q2⟩
def tTup (t : TA) : TE := fun σ H Q => t σ H fun xs H1 => xs.length ≤ sizeLine ∧ ∀ p, H1 p = none → Q (.ref p) (upd H1 p (.tup xs))
def tLst (t : TA) : TE := fun σ H Q => t σ H fun xs H1 => xs.length ≤ sizeLine ∧ ∀ p, H1 p = none → Q (.ref p) (upd H1 p (.lst xs))
theorem pe_tup {x1} (h : PA X es t) : PE X (.Tuple es x1 pos) (tTup t) := by
 intro pins s σ H Q I hq
 refine wpAny_Tuple_spliced (thn (h pos pins s σ H _ I hq) fun us s1 ⟨xs, H1, I1, r, z, q⟩ => ⟨by rw [← r.length]; exact z, ?_⟩)
 have hf : H1 s1.heap.objs.size = none := I1.hok.fresh (Nat.le_refl _)
 refine ⟨.ref s1.heap.objs.size, upd H1 s1.heap.objs.size (.tup xs), I1.laid (t' := s1.toks) (fun b u e => Heap.get?_push_of_some _ e) (Nat.le_refl _) ?_, rfl, q _ hf⟩
 exact ⟨z, us, r, ⟨_, Heap.get?_push_size _ rfl, rfl, _, rfl⟩⟩
theorem pe_lst (h : PA X es t) : PE X (.List es pos) (tLst t) := by
 intro pins s σ H Q I hq
 refine wpAny_List_spliced (thn (h pos pins s σ H _ I hq) fun us s1 ⟨xs, H1, I1, r, z, q⟩ => ⟨by rw [← r.length]; exact z, ?_⟩)
 have hf : H1 s1.heap.objs.size = none := I1.hok.fresh (Nat.le_refl _)
 refine ⟨.ref s1.heap.objs.size, upd H1 s1.heap.objs.size (.lst xs), I1.laid (t' := s1.toks) (fun b u e => Heap.get?_push_of_some _ e) (Nat.le_refl _) ?_, rfl, q _ hf⟩
 exact ⟨z, us, 0, r, Heap.get?_push_size _ rfl⟩
end
abbrev Sp := List V → Hp → VK → XK → Prop
abbrev CXT := List Env → Hp → Shared → XK → Value → Shared → Prop
structure Env0 (P : Program) (w : World) (K : PySem.W.Frag) (mg : Str → Option Value) (base : Heap) (A : Around) (outer : List Env) (s : Shared) (H : Hp) : Prop where
 frames : A.frames = some outer
 mod : Mod K mg base
 bs : ∀ b o, base.get? b = some o → s.heap.get? b = some o ∧ H b = none
 bsz : base.objs.size ≤ s.heap.objs.size
 funs : s.heap.FunFrames base outer
 frf : ∀ b ∈ frs outer, H b = none
 hok : HOk P w H s.heap
 bare : AllBare s.gens
def CE (outer : List Env) (P : Program) (w : World) (H : Hp) (s : Shared) (Q : VK) (u : Value) (s' : Shared) : Prop :=
 ∃ v H', s'.os = s.os ∧ AllBare s'.gens ∧ Un (frs outer) [] H H' s.heap s'.heap ∧ HOk P w H' s'.heap ∧ RelV v u ∧ Q v H'
def CR (CX : CXT) (outer : List Env) (P : Program) (w : World) (H : Hp) (s : Shared) (Q : VK) (E : XK) (r : Result) (s' : Shared) : Prop :=
 match r with
 | .ok (.ret u) => CE outer P w H s Q u s'
 | .ok _ => False
 | .error e => CX outer H s E e s'
structure FnOk (P : Program) (w : World) (K : PySem.W.Frag) (mg : Str → Option Value) (base : Heap) (CX : CXT) (k : Nat) (f : Addr) (fd : FuncData) (ps : List Str) (sp : Sp) : Prop where
 len : ∀ vs H Q E, sp vs H Q E → vs.length = ps.length
 run : ∀ (A : Around) (outer : List Env) (s : Shared) (H : Hp) (args : Args) (us : List Value) (vs : List V) (Q : VK) (E : XK), Room k A → Env0 P w K mg base A outer s H → BindsTo s fd args (ps.zip us) → Vals vs us → sp vs H Q E →
   codeAny (model P w) A (.call (.ref f) args) (CR CX outer P w H s Q E) s
theorem FnOk.mono {P : Program} {w : World} {K : PySem.W.Frag} {mg : Str → Option Value} {base : Heap} {CX : CXT} {j k : Nat} {f : Addr} {fd : FuncData} {ps : List Str} {sp : Sp} (F : FnOk P w K mg base CX j f fd ps sp) (h : j ≤ k) :
   FnOk P w K mg base CX k f fd ps sp := ⟨F.len, fun A outer s H args us vs Q E hr => F.run A outer s H args us vs Q E (hr.mono h)⟩
section
variable {X : Cx} {pins : List (Addr × Obj)} {σ : St} {H : Hp} {s s' : Shared}
theorem Inv.env0 (I : Inv X pins σ H s) : Env0 X.prog X.w X.K X.mg X.base X.A X.stack s H :=
 ⟨I.ok.frames, I.ok.mod, I.bs, Nat.le_trans I.ok.bsz I.sz, I.stack, I.stkFree, I.hok, I.bare⟩
theorem Inv.after {Q : VK} {u : Value} (I : Inv X pins σ H s) (h : CE X.stack X.prog X.w H s Q u s') : EP X pins σ Q u s' := by
 obtain ⟨v, H', os, bare, un, hok, r, q⟩ := h
 obtain ⟨hh, g, d, t, os'⟩ := s'
 obtain rfl : os' = s.os := os
 exact ⟨v, H', I.call (h' := hh) (g' := g) (d' := d) (t' := t) (ch := []) un hok bare (fun b z => absurd z (by simp)), r, q⟩
end
def tCall (sp : Sp) (dvs : List V) (E : XK) (t : TA) : TE := fun σ H Q => t σ H fun vs H1 => sp (vs ++ dvs) H1 Q E
def Binds (K : PySem.W.Frag) (fd : FuncData) (ps : List Str) (ds : List Value) : Prop :=
 ∀ (s : Shared) (us : List Value), K.In s.heap → (us ++ ds).length = ps.length → BindsTo s fd ⟨us, []⟩ (ps.zip (us ++ ds))
theorem Binds.all {K : PySem.W.Frag} {fd : FuncData} {ps : List Str} (h : ∀ us : List Value, us.length = ps.length → bindArgs fd ⟨us, []⟩ = pure (ps.zip us)) : Binds K fd ps [] := fun s us _ hl => by
 rw [List.append_nil] at hl ⊢
 exact .of_eq (h us hl)
def Passes (CX : CXT) (X : Cx) (E : XK) : Prop := ∀ (pins : List (Addr × Obj)) (σ : St) (H : Hp) (s : Shared) (e : Value) (s' : Shared), Inv X pins σ H s → CX X.stack H s E e s' → X.xe e s'
section
variable {X : Cx} {CX : CXT} {k : Nat} {f C : Addr} {fd : FuncData} {ps : List Str} {sp : Sp} {dvs : List V} {ds : List Value} {E : XK} {x m : Str} {p pos apos : Pos} {e o : Expr} {es : List Expr} {ta : TE} {t : TA}
theorem run_fn {pins : List (Addr × Obj)} {σ : St} {H : Hp} {s : Shared} {Q : VK} {us : List Value} {vs : List V} (F : FnOk X.prog X.w X.K X.mg X.base CX k f fd ps sp) (hr : Room k X.A) (hb : Binds X.K fd ps ds) (hd : Vals dvs ds) (hx : Passes CX X E)
   (I : Inv X pins σ H s) (r : Vals vs us) (h : sp (vs ++ dvs) H Q E) : wpAny (model X.prog X.w) X.A (call (.ref f) us) (EP X pins σ Q) X.xe s := by
 have r2 : Vals (vs ++ dvs) (us ++ ds) := r.append hd
 have hl : (us ++ ds).length = ps.length := by rw [← r2.length]; exact F.len _ _ _ _ h
 refine wpAny_call (codeAny_mono (F.run X.A X.stack s H ⟨us, []⟩ (us ++ ds) (vs ++ dvs) Q E hr I.env0 (hb s us I.kIn hl) r2 h) fun r s' hq => ?_)
 cases r with
 | error e => exact hx pins σ H s e s' I hq
 | ok fl =>
   cases fl with
   | ret u => exact I.after hq
   | next => exact False.elim hq
   | brk => exact False.elim hq
   | cont => exact False.elim hq
theorem pe_call (F : FnOk X.prog X.w X.K X.mg X.base CX k f fd ps sp) (hr : Room k X.A) (hg : Gl X x) (hm : X.mg x = some (.ref f)) (hk : PySem.W.keepIn X.K (.ref f) = true) (hb : Binds X.K fd ps ds) (hd : Vals dvs ds) (hx : Passes CX X E)
   (ha : PA X (e :: es) t) (hdb : (x == ("__debug__" : Str)) = false := by decide) (he : starEach (e :: es) X.env = (false, eval e X.env) :: starEach es X.env := by rfl) (hpl : (backTo pos (starEach es X.env)).any (·.1) = false := by rfl) :
   PE X (.Call (.Name x p) (e :: es) [] pos) (tCall sp dvs E t) := by
 intro pins s σ H Q I h
 refine wpAny_Call_Name_kw (ld_glob I hg hm ?_ hdb)
 refine PySem.W.callWith_K (h₀ := X.base) I.ok.mod.kin hk (thn (ha pos pins s σ H _ I h) fun us s1 ⟨vs, H1, I1, r, q⟩ => ⟨I1.kIn, ?_⟩) he hpl
 exact run_fn F hr hb hd hx I1 r q
end
structure FnScope (N P : List Str) (sc : Scope) : Prop where
 kind : sc.kind = .function
 co : sc.isCoroutine = false
 gen : sc.isGenerator = false
 nd : N.Nodup
 pre : N.take P.length = P
 par : ∀ x ∈ P, sc.names.lookup x = some .local ∨ sc.names.lookup x = some .cell
 nofree : ∀ y ∈ sc.names, y.2 ≠ .free
theorem bindL_out {kindOf : Str → Option NameKind} {x : Str} : ∀ {binds : List (Str × Value)} {m : Str → Option Value}, (∀ v, (x, v) ∉ binds) → bindL kindOf binds m x = m x
 | [], _, _ => rfl
 | (n, v) :: r, m, h => by
   unfold bindL
   rw [bindL_out fun w hw => h w (List.mem_cons_of_mem _ hw)]
   split
   · have : x ≠ n := by rintro rfl; exact h v List.mem_cons_self
     simp [this]
   · rfl
theorem bindC_out {kindOf : Str → Option NameKind} {x : Str} : ∀ {binds : List (Str × Value)} {m : Str → Option Value}, (∀ v, (x, v) ∉ binds) → bindC kindOf binds m x = m x
 | [], _, _ => rfl
 | (n, v) :: r, m, h => by
   unfold bindC
   rw [bindC_out fun w hw => h w (List.mem_cons_of_mem _ hw)]
   split
   · rfl
   · have : x ≠ n := by rintro rfl; exact h v List.mem_cons_self
     simp [this]
theorem bindL_get {kindOf : Str → Option NameKind} {x : Str} {v : Value} : ∀ {P : List Str} {vs : List Value} {i : Nat} {m : Str → Option Value}, P.Nodup → P[i]? = some x → vs[i]? = some v → kindOf x = some .local →
   bindL kindOf (P.zip vs) m x = some v
 | [], _, _, _, _, h, _, _ => by simp at h
 | _ :: _, [], _, _, _, _, h, _ => by simp at h
 | p :: P, w :: vs, 0, m, nd, h1, h2, hk => by
   simp at h1 h2; subst h1; subst h2
   show bindL kindOf ((p, w) :: P.zip vs) m p = _
   unfold bindL
   rw [bindL_out fun v hv => (List.nodup_cons.mp nd).1 (List.of_mem_zip hv).1, if_pos hk]
   simp
 | p :: P, w :: vs, i + 1, m, nd, h1, h2, hk => by
   show bindL kindOf ((p, w) :: P.zip vs) m x = _
   unfold bindL
   exact bindL_get (i := i) (List.nodup_cons.mp nd).2 (by simpa using h1) (by simpa using h2) hk
theorem bindC_get {kindOf : Str → Option NameKind} {x : Str} {v : Value} : ∀ {P : List Str} {vs : List Value} {i : Nat} {m : Str → Option Value}, P.Nodup → P[i]? = some x → vs[i]? = some v → kindOf x ≠ some .local →
   bindC kindOf (P.zip vs) m x = some v
 | [], _, _, _, _, h, _, _ => by simp at h
 | _ :: _, [], _, _, _, _, h, _ => by simp at h
 | p :: P, w :: vs, 0, m, nd, h1, h2, hk => by
   simp at h1 h2; subst h1; subst h2
   show bindC kindOf ((p, w) :: P.zip vs) m p = _
   unfold bindC
   rw [bindC_out fun v hv => (List.nodup_cons.mp nd).1 (List.of_mem_zip hv).1, if_neg hk]
   simp
 | p :: P, w :: vs, i + 1, m, nd, h1, h2, hk => by
   show bindC kindOf ((p, w) :: P.zip vs) m x = _
   unfold bindC
   exact bindC_get (i := i) (List.nodup_cons.mp nd).2 (by simpa using h1) (by simpa using h2) hk
def start (N : List Str) (vs : List V) : St := vs.map some ++ List.replicate (N.length - vs.length) none
def cxOf (CX : CXT) (P : Program) (w : World) (K : PySem.W.Frag) (mg : Str → Option Value) (base : Heap) (N : List Str) (qual : Str) (scope : Scope) (f : Addr) (cd : Value) (A : Around) (outer : List Env) (s : Shared) (H : Hp) (E : XK) : Cx where
 prog := P
 w := w
 K := K
 mg := mg
 base := base
 A := A.deeper (envOfC qual scope s.heap.objs.size f cd)
 N := N
 s₀ := s
 H₀ := H
 env := envOfC qual scope s.heap.objs.size f cd
 outer := outer
 stack := envOfC qual scope s.heap.objs.size f cd :: outer
 ex := []
 calm := true
 fn := fun _ => true
 pn := []
 xe := fun e s' => wpAny (model P w) (A.deeper (envOfC qual scope s.heap.objs.size f cd)) (leaving (envOfC qual scope s.heap.objs.size f cd) e) (fun _ s'' => CX outer H s E e s'') (fun e' s'' => CX outer H s E e' s'') s'
theorem cell_has {sc : Scope} {n : Nat} {x : Str} (h : sc.names.lookup x = some .cell) : ∃ c, (cellsFrom n sc.names []).lookup x = some c := by
 have q := PySem.W.cellsFrom_some sc.names n [] (.inl h)
 exact Option.isSome_iff_exists.mp q
theorem inv_start {CX : CXT} {P : Program} {w : World} {K : PySem.W.Frag} {mg : Str → Option Value} {base : Heap} {N ps : List Str} {qual : Str} {scope : Scope} {f : Addr} {cd : Value} {A : Around} {outer : List Env} {s s1 : Shared} {H : Hp} {E : XK} {us : List Value} {vs : List V}
   (S : FnScope N ps scope) (hd : A.handled = none) (e0 : Env0 P w K mg base A outer s H) (hl : vs.length = ps.length) (r : Vals vs us)
   (x : InCallC s s.heap.objs.size (bindL (envOfC qual scope s.heap.objs.size f cd).kindOf (ps.zip us) fun _ => none) (cellsFrom (s.heap.objs.size + 1) scope.names []) (bindC (envOfC qual scope s.heap.objs.size f cd).kindOf (ps.zip us) fun _ => none) s1) :
   Inv (cxOf CX P w K mg base N qual scope f cd A outer s H E) [] (start N vs) H s1 := by
 have hpl : ps.length ≤ N.length := by have := congrArg List.length S.pre; rw [List.length_take] at this; omega
 obtain ⟨h1, tk, rfl, hk⟩ := x.done
 have noA : ∀ b : Addr, b ∉ (cxOf CX P w K mg base N qual scope f cd A outer s H E).ex := fun b z => absurd (show b ∈ ([] : List Addr) from z) (by simp)
 refine ⟨⟨e0.mod, S.kind, rfl, rfl, Nat.le_refl _, fun y z c h1 h2 => ?_, fun y hy => ?_, fun y c _ h => ?_, fun _ => hd, Around.frames_deeper e0.frames, .inr ⟨rfl, rfl⟩, fun b z => absurd z (noA b), e0.bs, e0.bsz, fun b _ _ => noA b, fun b z => absurd z (noA b), e0.funs, e0.frf⟩,
   rfl, e0.bare, Un.kept hk, ⟨_, x.toInCall.ns, fun i y v h1 h2 h3 => ?_⟩, fun y c h => ⟨_, x.cell y c h⟩, e0.hok.fresh (Nat.le_refl _), fun y c h => ?_, fun p hp => absurd (show p ∈ ([] : List (Addr × Obj)) from hp) (by simp), e0.hok.kept hk, ?_⟩
 · exact name_of_addr x.apart (PySem.mem_of_lookup h1) (PySem.mem_of_lookup h2)
 · have hy : scope.names.lookup y = some .cell ∨ scope.names.lookup y = some .free := hy
   rcases hy with hy | hy
   · exact cell_has hy
   · exact absurd rfl (S.nofree _ (PySem.mem_of_lookup hy))
 · exact Nat.le_of_lt (x.above y c (PySem.mem_of_lookup h))
 · have hi : i < vs.length := by
     unfold start at h2
     by_cases hi : i < vs.length
     · exact hi
     · rw [List.getElem?_append_right (by simpa using hi)] at h2
       rw [List.getElem?_replicate] at h2
       split at h2 <;> cases h2
   have ha : vs[i]? = some v := by
     unfold start at h2
     rw [List.getElem?_append_left (by simpa using hi), List.getElem?_map] at h2
     cases e : vs[i]? with
     | none => rw [e] at h2; cases h2
     | some a => rw [e] at h2; cases h2; rfl
   obtain ⟨u, hu, rv⟩ := r.get ha
   have hp : ps[i]? = some y := by
     rw [← S.pre, List.getElem?_take_of_lt (by omega)]; exact h1
   have ndP : ps.Nodup := by rw [← S.pre]; exact S.nd.sublist (List.take_sublist _ _)
   refine ⟨u, rv, ?_⟩
   rcases S.par y (List.mem_of_getElem? hp) with k | k
   · exact .inl ⟨k, bindL_get ndP hp hu k⟩
   · obtain ⟨c, e⟩ := cell_has (n := s.heap.objs.size + 1) k
     refine .inr ⟨.inl k, c, e, ?_⟩
     have q := x.cell y c e
     rw [bindC_get ndP hp hu (by show scope.names.lookup y ≠ _; rw [k]; decide)] at q
     exact q
 · exact e0.hok.fresh (Nat.le_of_lt (x.above y c (PySem.mem_of_lookup h)))
 · unfold start
   show _ = N.length
   rw [List.length_append, List.length_map, List.length_replicate]
   omega
theorem fn_of {CX : CXT} {P : Program} {w : World} {K : PySem.W.Frag} {mg : Str → Option Value} {base : Heap} {k : Nat} {f : Addr} {name qual : Str} {params : Arguments} {body : List Stmt} {scope : Scope} {dV kV doc pm cdv ct oc : Value} {an od : Option Addr}
   {osl : Array (Option Value)} {N ps : List Str} {sp : Sp} (lk : K.lookup f = some ⟨oc, od, .func (PySem.W.fnOf name qual params body scope dV kV doc pm an cdv ct), osl⟩) (hcd : PySem.W.codeIn K cdv qual = true) (S : FnScope N ps scope)
   (len : ∀ vs H Q E, sp vs H Q E → vs.length = ps.length)
   (hbody : ∀ (A : Around) (outer : List Env) (s : Shared) (H : Hp) (vs : List V) (Q : VK) (E : XK), Room k (A.deeper (envOfC qual scope s.heap.objs.size f cdv)) → sp vs H Q E →
     ∃ t, PSs (cxOf CX P w K mg base N qual scope f cdv A outer s H E) body t ∧ t { nx := fun _ H' => Q .non H', rt := Q } (start N vs) H) :
   FnOk P w K mg base CX (k + 1) f (PySem.W.fnOf name qual params body scope dV kV doc pm an cdv ct) ps sp := by
 refine ⟨len, fun A outer s H args us vs Q E hr e0 hb r hsp => ?_⟩
 have hl := len _ _ _ _ hsp
 have KX : K.In s.heap := e0.mod.kin.keeps fun b o e => (e0.bs b o e).1
 have lim : s.heap.NoLimit := e0.mod.nolimit.keeps fun b o e => (e0.bs b o e).1
 have hkind : ∀ y ∈ ps.zip us, scope.names.lookup y.1 = some .local ∨ (scope.names.lookup y.1 = some .cell ∧ ((cellsFrom (s.heap.objs.size + 1) scope.names []).lookup y.1).isSome = true) := fun ⟨n, v⟩ hy => by
   rcases S.par n (List.of_mem_zip hy).1 with q | q
   · exact .inl q
   · exact .inr ⟨q, PySem.W.cellsFrom_some _ _ _ (.inl q)⟩
 refine codeAny_call_function hr.depth (KX _ _ lk) rfl S.co S.gen rfl (PySem.W.codeRec_of KX hcd) (hb _ _ _ _ ?_)
 refine wpAny_newFunctionEnv_cells S.kind hkind fun env he s1 x => ?_
 subst he
 refine ⟨lim.keeps x.toInCall.keep, codeAny_func ?_⟩
 obtain ⟨t, ht, hq⟩ := hbody A outer s H vs Q E (hr.deeper _) hsp
 have I : Inv (cxOf CX P w K mg base N qual scope f cdv A outer s H E) [] (start N vs) H s1 := inv_start S hr.hd e0 hl r x
 refine wpAny_mono (ht [] s1 (start N vs) H _ I hq) (fun fl s' hs => ?_) fun e s' hs => hs
 have fin : ∀ {σ' : St} {H' : Hp} {v : V} {u : Value}, Inv (cxOf CX P w K mg base N qual scope f cdv A outer s H E) [] σ' H' s' → RelV v u → Q v H' → CE outer P w H s Q u s' :=
   fun {σ' H' v u} J rv q => ⟨v, H', J.os, J.bare, J.base, J.hok, rv, q⟩
 cases fl with
 | ret u =>
   obtain ⟨v, σ', H', J, rv, q⟩ := hs
   exact fin J rv q
 | next =>
   obtain ⟨σ', H', J, q⟩ := hs
   exact fin (v := V.non) (u := Value.none) J rfl q
 | brk =>
   obtain ⟨_, _, _, q⟩ := hs
   exact False.elim q
 | cont =>
   obtain ⟨_, _, _, q⟩ := hs
   exact False.elim q
end L2
namespace L2
open PySem PySem.Spec PyProof.Rows
section
variable {X : Cx} {x : Str} {p pos : Pos} {e : Expr} {es : List Expr} {t : TA} {id T : String} {r : List V → Hp → VK → Prop}
def tCB (r : List V → Hp → VK → Prop) (t : TA) : TE := fun σ H Q => t σ H fun vs H1 => r vs H1 Q
theorem pe_callB (hc : CallR X (.builtin id) r) (hg : Gl X x) (hm : X.mg x = none) (hv : bootBuiltins x = some (.builtin id)) (ha : PA X (e :: es) t) (hn : x ≠ "__name__" := by decide) (hdb : (x == ("__debug__" : Str)) = false := by decide)
   (he : starEach (e :: es) X.env = (false, eval e X.env) :: starEach es X.env := by rfl) (hpl : (backTo pos (starEach es X.env)).any (·.1) = false := by rfl) : PE X (.Call (.Name x p) (e :: es) [] pos) (tCB r t) := by
 intro pins s σ H Q I h
 refine wpAny_Call_Name_kw (ld_blt I hg hm hv ?_ hn hdb)
 exact PyProof.Rows.callWith_builtin1 (thn (ha pos pins s σ H _ I h) fun us s1 ⟨vs, H1, I1, r1, q1⟩ => hc pins s1 σ H1 vs us Q I1 r1 q1) he hpl
theorem pe_callTy (hc : CallR X (.type T) r) (hg : Gl X x) (hm : X.mg x = none) (hv : bootBuiltins x = some (.type T)) (ha : PA X (e :: es) t) (hn : x ≠ "__name__" := by decide) (hdb : (x == ("__debug__" : Str)) = false := by decide)
   (he : starEach (e :: es) X.env = (false, eval e X.env) :: starEach es X.env := by rfl) (hpl : (backTo pos (starEach es X.env)).any (·.1) = false := by rfl) : PE X (.Call (.Name x p) (e :: es) [] pos) (tCB r t) := by
 intro pins s σ H Q I h
 refine wpAny_Call_Name_kw (ld_blt I hg hm hv ?_ hn hdb)
 exact PyProof.Rows.callWith_type1 (thn (ha pos pins s σ H _ I h) fun us s1 ⟨vs, H1, I1, r1, q1⟩ => hc pins s1 σ H1 vs us Q I1 r1 q1) he hpl
end
end L2
namespace HT
open PySem PyProof.Rows
section
variable {prog : Program} {w : World} {A : Around} {E : Value → Shared → Prop} {s : Shared}
theorem cat_tup {t b : Addr} {vs ws : List Value} {Q : Value → Shared → Prop} (ht : IsTup s.heap t vs.toArray) (hb : IsTup s.heap b ws.toArray) (hv : vs ≠ [])
   (h1 : ws = [] → Q (.ref t) s) (h2 : ws ≠ [] → Q (.ref s.heap.objs.size) { s with heap := s.heap.push { cls := .type "tuple", data := .seq (vs ++ ws).toArray } })
   (hsz : vs.length + ws.length ≤ sizeLine) : wpAny (model prog w) A (binaryOp .Add (.ref t) (.ref b)) Q E s := by
 obtain ⟨⟨cls, dd, data, sl⟩, ho, hc, n, hd⟩ := id ht
 obtain ⟨⟨cls2, dd2, data2, sl2⟩, ho2, hc2, n2, hd2⟩ := id hb
 simp only at hc hd hc2 hd2
 subst hc hd hc2 hd2
 have e : vs.toArray ++ ws.toArray = (vs ++ ws).toArray := by simp
 by_cases hw : ws = []
 · exact concat_meets ⟨_, ho, rfl⟩ ⟨_, ho2, rfl⟩ noFill_tuple_add seq_tuple_add PySem.F.slot_tuple_add PySem.F.entry_tuple_add (PySem.F.args_tuple_add_2 _ _)
     (tuple_addW1 t b vs.toArray ws.toArray n n2 dd dd2 sl sl2 (by simpa using hv) (by simp [hw])) ⟨ho, ho2, h1 hw⟩
 · refine concat_meets ⟨_, ho, rfl⟩ ⟨_, ho2, rfl⟩ noFill_tuple_add seq_tuple_add PySem.F.slot_tuple_add PySem.F.entry_tuple_add (PySem.F.args_tuple_add_2 _ _)
     (tuple_addW2 t b vs.toArray ws.toArray n n2 dd dd2 sl sl2 (by simpa using hv) (by simpa using hw) (by rw [List.size_toArray, List.size_toArray]; exact hsz)) ⟨ho, ho2, ?_⟩
   rw [e]
   exact h2 hw
def sIx (n d : Nat) : Option Int → Nat
 | none => d
 | some v => if v < 0 then (v + (n : Int)).toNat else min v.toNat n
theorem sIx_le (n d : Nat) (hd : d ≤ n) (o : Option Int) : sIx n d o ≤ n := by
 cases o with
 | none => exact hd
 | some v =>
   show (if v < 0 then (v + (n : Int)).toNat else min v.toNat n) ≤ n
   by_cases hv : v < 0
   · rw [if_pos hv]; omega
   · rw [if_neg hv]; exact Nat.min_le_right _ _
theorem clip_eq (v : Int) (n d : Nat) : (if v < 0 then max (v + (n : Int)) 0 else min v (n : Int)) = ((sIx n d (some v) : Nat) : Int) := by
 show (if v < 0 then max (v + (n : Int)) 0 else min v (n : Int)) = (((if v < 0 then (v + (n : Int)).toNat else min v.toNat n) : Nat) : Int)
 by_cases hv : v < 0
 · simp only [if_pos hv]; omega
 · simp only [if_neg hv]; omega
theorem adjust_gen (lo hi : Option Int) (n : Nat) : Builtin.Slice.sliceAdjust lo hi 1 (n : Int) = (((sIx n 0 lo : Nat) : Int), ((sIx n n hi : Nat) : Int)) := by
 have h1 : ¬ ((1 : Int) < 0) := by omega
 unfold Builtin.Slice.sliceAdjust
 simp only [h1, if_false]
 refine Prod.ext ?_ ?_
 · cases lo with
   | none => rfl
   | some v => exact clip_eq v n 0
 · cases hi with
   | none => rfl
   | some v => exact clip_eq v n n
theorem places_gen (i j : Nat) : Builtin.Slice.slicePlaces (i : Int) (j : Int) 1 = j - i := by
 unfold Builtin.Slice.slicePlaces
 have h1 : (1 : Int) > 0 := by omega
 simp only [h1, if_true, Int.ediv_one]
 split <;> omega
theorem slicePart_ {v : Value} {o : Option Int} {Q : Option Int → Shared → Prop} (p : IsPart v o) (h : Q o s) : wpAny (model prog w) A (Builtin.Slice.slicePartIndex v) Q E s := by
 cases p with
 | none => exact slicePart_none h
 | int i t => exact slicePart_int h
theorem sliceApplied_gen {sl : Addr} {vl vu : Value} {lo hi : Option Int} {n : Nat} {Q : Int × Int × Nat → Shared → Prop} (hs : s.heap.IsSliceOf sl vl vu .none) (pl : IsPart vl lo) (pu : IsPart vu hi)
   (h : Q (((sIx n 0 lo : Nat) : Int), 1, sIx n n hi - sIx n 0 lo) s) : wpAny (model prog w) A (Builtin.Slice.sliceApplied (.ref sl) (pure (n : Int))) Q E s := by
 obtain ⟨os, hos, hcs, hds⟩ := id hs
 unfold Builtin.Slice.sliceApplied Builtin.Slice.sliceFields
 refine wpAny_bind (wpAny_bind (wpAny_field hos hds (x := vl) rfl (wpAny_bind (wpAny_field hos hds (x := vu) rfl (wpAny_bind (wpAny_field hos hds (x := .none) rfl (wpAny_pure ?_)))))))
 refine wpAny_bind (slicePart_none ?_)
 show wpAny _ _ (if ((1 : Int) == 0) = true then _ else _) _ _ s
 rw [if_neg (by decide)]
 refine wpAny_bind (slicePart_ pl (wpAny_bind (slicePart_ pu (wpAny_bind (wpAny_pure ?_)))))
 show wpAny _ _ (match Builtin.Slice.sliceAdjust lo hi 1 (n : Int) with | (lo, hi) => pure (lo, (1 : Int), Builtin.Slice.slicePlaces lo hi 1)) _ _ s
 rw [adjust_gen lo hi n]
 show wpAny _ _ (pure (((sIx n 0 lo : Nat) : Int), (1 : Int), Builtin.Slice.slicePlaces ((sIx n 0 lo : Nat) : Int) ((sIx n n hi : Nat) : Int) 1)) _ _ s
 rw [places_gen]
 exact wpAny_pure h
theorem pick_gen (xs : Array Value) (i k : Nat) : ((List.range k).filterMap fun (m : Nat) => xs[((i : Int) + (m : Int) * 1).toNat]?).toArray = ((xs.toList.drop i).take k).toArray := by
 have e : (fun (m : Nat) => xs[((i : Int) + (m : Int) * 1).toNat]?) = fun m => xs[i + m]? := by
   funext m
   have : ((i : Int) + (m : Int) * 1).toNat = i + m := by omega
   rw [this]
 rw [e]
 have := pick_run xs i k
 rw [List.filterMap_map] at this
 have e2 : ((fun x => xs[x]?) ∘ fun x => i + x) = fun m => xs[i + m]? := rfl
 rw [e2] at this
 rw [this]
theorem getItem_tuple_cut {t sl : Addr} {items : Array Value} {vl vu : Value} {lo hi : Option Int} {Q : Value → Shared → Prop} (ht : IsTup s.heap t items) (hs : s.heap.IsSliceOf sl vl vu .none) (pl : IsPart vl lo) (pu : IsPart vu hi)
   (hw : ¬ (sIx items.size 0 lo = 0 ∧ sIx items.size items.size hi = items.size))
   (h : Q (.ref s.heap.objs.size) { s with heap := s.heap.push { cls := .type "tuple", data := .seq ((items.toList.drop (sIx items.size 0 lo)).take (sIx items.size items.size hi - sIx items.size 0 lo)).toArray } })
   (hsz : items.size ≤ sizeLine) : wpAny (model prog w) A (getItem (.ref t) (.ref sl)) Q E s := by
 have htake : sizeOk (.seq ((items.toList.drop (sIx items.size 0 lo)).take (sIx items.size items.size hi - sIx items.size 0 lo)).toArray) := by
   show ((items.toList.drop (sIx items.size 0 lo)).take (sIx items.size items.size hi - sIx items.size 0 lo)).toArray.size ≤ sizeLine
   rw [List.size_toArray, List.length_take, List.length_drop, Array.length_toList]
   omega
 have hj : sIx items.size items.size hi ≤ items.size := sIx_le _ _ (Nat.le_refl _) hi
 obtain ⟨os, hos, hcs, hds⟩ := id hs
 have hTs : s.TypeIs (.ref sl) "slice" := ⟨os, hos, hcs⟩
 unfold getItem
 try with_reducible refine wpAny_holding ?_
 first | refine wpAny_bind (wpAny_pure ?_) | skip
 refine wpAny_bind (wpAny_sequenceKey ht.typeIs (by decide) ?_)
 refine wpAny_bind (wpAny_callSpecial?_slot (name := Str.ofString "__getitem__") ht.typeIs PyProof.Rows.slot_tuple_getitem
   (wpAny_call_entry PyProof.Rows.slot_tuple_getitem ht.typeIs entry_tuple_getitem ?_ (args_tuple_getitem _ _)))
 show wpAny _ _ (Builtin.Tuple.tupleItemsOf (.ref t) >>= _) _ _ s
 refine wpAny_bind (tupleItemsOf_ ht ?_)
 refine wpAny_bind (wpAny_typeOf hTs ?_)
 rw [if_pos (by decide)]
 refine wpAny_bind (sliceApplied_gen hs pl pu ?_)
 have hno : ¬ ((((sIx items.size 0 lo : Nat) : Int) == 0 && (1 : Int) == 1 && (sIx items.size items.size hi - sIx items.size 0 lo) == items.size) = true) := by
   intro q
   rw [Bool.and_eq_true, Bool.and_eq_true] at q
   have q1 : ((sIx items.size 0 lo : Nat) : Int) = 0 := eq_of_beq q.1.1
   have q2 : sIx items.size items.size hi - sIx items.size 0 lo = items.size := eq_of_beq q.2
   exact hw ⟨by omega, by omega⟩
 show wpAny _ _ (if (((sIx items.size 0 lo : Nat) : Int) == 0 && (1 : Int) == 1 && (sIx items.size items.size hi - sIx items.size 0 lo) == items.size) = true then _ else _) _ _ s
 rw [if_neg hno, pick_gen]
 first
   | exact wpAny_bind (m := Builtin.Tuple.tupleExact _) (wpAny_newObj_type (wpAny_pure ⟨_, rfl, wpAny_pure h⟩) htake)
   | exact wpAny_bind (m := Builtin.Tuple.tupleExact _) (wpAny_newObj_type (wpAny_bind (wpAny_pure (wpAny_pure ⟨_, rfl, wpAny_pure h⟩))) htake)
   | exact wpAny_bind (wpAny_bind (m := Builtin.Tuple.tupleExact _) (wpAny_newObj_type (wpAny_pure (wpAny_pure ⟨_, rfl, wpAny_pure h⟩)) htake))
   | exact wpAny_bind (wpAny_bind (m := Builtin.Tuple.tupleExact _) (wpAny_newObj_type (wpAny_pure ⟨_, rfl, wpAny_pure h⟩) htake))
end
end HT
namespace L2
open PySem PySem.Spec PyProof.Rows
abbrev TO := St → Hp → (Option Int → Hp → Prop) → Prop
def PO (X : Cx) (e : Option Expr) (t : TO) : Prop :=
 ∀ (pins : List (Addr × Obj)) (s : Shared) (σ : St) (H : Hp) (Q : Option Int → Hp → Prop), Inv X pins σ H s → t σ H Q →
   wpAny (model X.prog X.w) X.A (evalPart e X.env) (fun u s' => ∃ o H', Inv X pins σ H' s' ∧ IsPart u o ∧ Q o H') X.xe s
def tNoPart : TO := fun _ H Q => Q none H
def tPart (t : TE) : TO := fun σ H Q => t σ H fun x H1 => ∃ i, x = .int i ∧ Q (some i) H1
section
variable {X : Cx} {e : Expr} {te : TE} {lo hi : Option Expr} {tl th : TO} {pos p2 : Pos}
theorem po_none : PO X none tNoPart := by
 intro pins s σ H Q I h
 rw [evalPart_none]
 exact wpAny_pure ⟨none, H, I, .none, h⟩
theorem po_some (h : PE X e te) : PO X (some e) (tPart te) := by
 intro pins s σ H Q I hw
 rw [evalPart_some]
 refine thn (h pins s σ H _ I hw) fun u s1 ⟨x, H1, I1, r1, q1⟩ => ?_
 obtain ⟨i, rfl, q⟩ := q1
 obtain ⟨t, rfl⟩ := r1
 exact ⟨some i, H1, I1, .int i t, q⟩
def SlR (X : Cx) (r : V → Option Int → Option Int → Hp → VK → Prop) : Prop :=
 ∀ (pins : List (Addr × Obj)) (s : Shared) (σ : St) (H : Hp) (x : V) (v vl vu : Value) (lo hi : Option Int) (sl : Addr) (Q : VK), Inv X pins σ H s → RelV x v → s.heap.IsSliceOf sl vl vu .none → IsPart vl lo → IsPart vu hi → r x lo hi H Q →
   ∃ T id, typeLookup (.type T) "__getitem__" = pure (some (.builtin id)) ∧ s.TypeIs v T ∧ wpAny (model X.prog X.w) X.A (getItem v (.ref sl)) (EP X pins σ Q) X.xe s
theorem SlR.or {r r' : V → Option Int → Option Int → Hp → VK → Prop} (h : SlR X r) (h' : SlR X r') : SlR X (fun x lo hi H Q => r x lo hi H Q ∨ r' x lo hi H Q) := by
 intro pins s σ H x v vl vu lo hi sl Q I rx hs pl pu q
 rcases q with q | q
 · exact h pins s σ H x v vl vu lo hi sl Q I rx hs pl pu q
 · exact h' pins s σ H x v vl vu lo hi sl Q I rx hs pl pu q
def tSl (r : V → Option Int → Option Int → Hp → VK → Prop) (te : TE) (tl th : TO) : TE := fun σ H Q => te σ H fun x H1 => tl σ H1 fun l H2 => th σ H2 fun u H3 => r x l u H3 Q
theorem pe_slice {r : V → Option Int → Option Int → Hp → VK → Prop} (hr : SlR X r) (he : PE X e te) (hl : PO X lo tl) (hu : PO X hi th) : PE X (.Subscript e (.Slice lo hi none p2) pos) (tSl r te tl th) := by
 intro pins s σ H Q I h
 refine Subscript_ (thn (he pins s σ H _ I h) fun v s1 ⟨x, H1, I1, r1, q1⟩ => ?_)
 refine wpAny_Slice (thn (hl pins s1 σ H1 _ I1 q1) fun vl s2 ⟨l, H2, I2, pl, q2⟩ => thn (hu pins s2 σ H2 _ I2 q2) fun vu s3 ⟨u, H3, I3, pu, q3⟩ => ?_)
 rw [evalPart_none]
 refine wpAny_pure ?_
 have I4 : Inv X pins σ H3 { s3 with heap := s3.heap.push { cls := .type "slice", data := .fields #[vl, vu, .none] } } := I3.kept (t' := s3.toks) fun b ob q => Heap.get?_push_of_some _ q
 obtain ⟨T, id, hT, ht, hg⟩ := hr pins { s3 with heap := s3.heap.push { cls := .type "slice", data := .fields #[vl, vu, .none] } } σ H3 x v vl vu l u s3.heap.objs.size Q I4 r1 (Heap.IsSliceOf.new ..) pl pu q3
 show wpAny (model X.prog X.w) X.A (subscriptTail e (.Slice lo hi none p2) v (.ref s3.heap.objs.size)) (EP X pins σ Q) X.xe { s3 with heap := s3.heap.push { cls := .type "slice", data := .fields #[vl, vu, .none] } }
 exact tail_any (ops := [.ref s3.heap.objs.size, v]) ht hT hg (by with_unfolding_all rfl)
def cutV (xs : List V) (lo hi : Option Int) : List V := (xs.drop (HT.sIx xs.length 0 lo)).take (HT.sIx xs.length xs.length hi - HT.sIx xs.length 0 lo)
theorem cutV_length (xs : List V) (lo hi : Option Int) : (cutV xs lo hi).length ≤ xs.length := by
 unfold cutV
 rw [List.length_take, List.length_drop]
 omega
def rSlT (K : PySem.W.Frag) : V → Option Int → Option Int → Hp → VK → Prop := fun x lo hi H Q => ∃ a xs, x = .ref a ∧ SqT K H a xs ∧
 ¬ (HT.sIx xs.length 0 lo = 0 ∧ HT.sIx xs.length xs.length hi = xs.length) ∧ ∀ p, H p = none → Q (.ref p) (upd H p (.tup (cutV xs lo hi)))
theorem sl_tup : SlR X (rSlT X.K) := by
 intro pins s σ H x v vl vu lo hi sl Q I rx hs pl pu h
 obtain ⟨a, xs, rfl, hx, hw, q⟩ := h
 cases rx
 obtain ⟨its, r, ht, hz⟩ := I.tuple hx
 have hlen : its.toArray.size = xs.length := by rw [List.size_toArray]; exact r.length.symm
 refine ⟨"tuple", _, PyProof.Rows.slot_tuple_getitem.lookup, ht.typeIs, ?_⟩
 refine HT.getItem_tuple_cut ht hs pl pu (by rw [hlen]; exact hw) ?_ (by rw [hlen]; exact hz)
 rw [hlen]
 refine ⟨.ref s.heap.objs.size, _, I.laid (t' := s.toks) (o := .tup (cutV xs lo hi)) (fun b ob q => Heap.get?_push_of_some _ q) (Nat.le_refl _) ?_, rfl, q _ (I.hok.fresh (Nat.le_refl _))⟩
 exact ⟨Nat.le_trans (cutV_length xs lo hi) hz, _, (r.drop (HT.sIx xs.length 0 lo)).take (HT.sIx xs.length xs.length hi - HT.sIx xs.length 0 lo), IsTup.new _ _⟩
def rCatT (K : PySem.W.Frag) : R2 := fun x y H Q => ∃ a b xs ys, x = .ref a ∧ y = .ref b ∧ SqT K H a xs ∧ SqT K H b ys ∧ xs ≠ [] ∧ xs.length + ys.length ≤ sizeLine ∧
 (ys = [] → Q (.ref a) H) ∧ (ys ≠ [] → ∀ p, H p = none → Q (.ref p) (upd H p (.tup (xs ++ ys))))
theorem Vals.nil_iff {xs : List V} {us : List Value} (r : Vals xs us) : us = [] ↔ xs = [] := by
 cases r with
 | nil => simp
 | cons _ _ => simp
theorem op_catT : OpR X (binaryOp .Add) (rCatT X.K) := by
 intro pins s σ H x y v u Q I rx ry h
 obtain ⟨a, b, xs, ys, rfl, rfl, ha, hb, hx, hz, q1, q2⟩ := h
 cases rx
 cases ry
 obtain ⟨its, r1, p1, _⟩ := I.tuple ha
 obtain ⟨its2, r2, p2, _⟩ := I.tuple hb
 refine HT.cat_tup p1 p2 (fun z => hx (r1.nil_iff.mp z)) (fun z => ⟨.ref a, H, I, rfl, q1 (r2.nil_iff.mp z)⟩) (fun z => ?_) (by rw [← r1.length, ← r2.length]; exact hz)
 refine ⟨.ref s.heap.objs.size, _, I.laid (t' := s.toks) (o := .tup (xs ++ ys)) (fun b ob q => Heap.get?_push_of_some _ q) (Nat.le_refl _) ?_, rfl, q2 (fun w => z (r2.nil_iff.mpr w)) _ (I.hok.fresh (Nat.le_refl _))⟩
 exact ⟨by rw [List.length_append]; exact hz, _, r1.append r2, IsTup.new _ _⟩
end
end L2
namespace L2
open PySem PySem.Spec PyProof.Rows
def ixN (n : Nat) (i : Int) : Option Nat := if 0 ≤ i then (if i < n then some i.toNat else none) else if -(n : Int) ≤ i then some (i + n).toNat else none
def atI {α : Type} (xs : List α) (i : Int) : Option α := (ixN xs.length i).bind fun j => xs[j]?
theorem ixN_seq {n : Nat} {i : Int} {j : Nat} (h : ixN n i = some j) : seqIndex? i n = some j ∧ j < n ∧ -(n : Int) ≤ i ∧ i < n := by
 unfold ixN at h
 by_cases h0 : 0 ≤ i
 · rw [if_pos h0] at h
   by_cases h1 : i < n
   · rw [if_pos h1] at h
     have e : i.toNat = j := Option.some.inj h
     exact ⟨by rw [seqIndex_of h0 h1, e], by omega, by omega, h1⟩
   · rw [if_neg h1] at h; cases h
 · rw [if_neg h0] at h
   by_cases h1 : -(n : Int) ≤ i
   · rw [if_pos h1] at h
     have e : (i + n).toNat = j := Option.some.inj h
     exact ⟨by rw [seqIndex_neg (by omega) h1, e], by omega, h1, by omega⟩
   · rw [if_neg h1] at h; cases h
theorem atI_get {α : Type} {xs : List α} {i : Int} {v : α} (h : atI xs i = some v) : ∃ j, seqIndex? i xs.length = some j ∧ xs[j]? = some v ∧ j < xs.length ∧ -(xs.length : Int) ≤ i ∧ i < xs.length := by
 unfold atI at h
 cases e : ixN xs.length i with
 | none => rw [e] at h; cases h
 | some j =>
   rw [e] at h
   obtain ⟨h1, h2, h3, h4⟩ := ixN_seq e
   exact ⟨j, h1, h, h2, h3, h4⟩
theorem atI_nat {α : Type} {xs : List α} {j : Nat} {v : α} (h : xs[j]? = some v) : atI xs (j : Int) = some v := by
 have hj : j < xs.length := (List.getElem?_eq_some_iff.mp h).1
 have e : ixN xs.length (j : Int) = some j := by
   unfold ixN
   rw [if_pos (by omega), if_pos (by omega)]; simp
 unfold atI; rw [e]; exact h
def PlainIx (b : Expr) : Prop := ∀ o i, subscripted b false o i = operate [o, i] (getItem o i)
def IxR (X : Cx) (r : R2) : Prop :=
 ∀ (value slice : Expr) (pins : List (Addr × Obj)) (s : Shared) (σ : St) (H : Hp) (x y : V) (v u : Value) (Q : VK), Inv X pins σ H s → RelV x v → RelV y u → r x y H Q →
   subscripted slice false v u = operate [v, u] (getItem v u) → wpAny (model X.prog X.w) X.A (subscriptTail value slice v u) (EP X pins σ Q) X.xe s
def MtR (X : Cx) (id : String) (r : V → List V → Hp → VK → Prop) : Prop :=
 ∀ (pins : List (Addr × Obj)) (s : Shared) (σ : St) (H : Hp) (x : V) (xs : List V) (v : Value) (us : List Value) (Q : VK), Inv X pins σ H s → RelV x v → Vals xs us → r x xs H Q →
   wpAny (model X.prog X.w) X.A (call (.builtin id) (v :: us)) (EP X pins σ Q) X.xe s
section
variable {X : Cx} {a b : Expr} {ta tb : TE} {pos : Pos}
theorem IxR.or {r r' : R2} (h : IxR X r) (h' : IxR X r') : IxR X (fun x y H Q => r x y H Q ∨ r' x y H Q) := by
 intro value slice pins s σ H x y v u Q I rx ry q hs
 rcases q with q | q
 · exact h value slice pins s σ H x y v u Q I rx ry q hs
 · exact h' value slice pins s σ H x y v u Q I rx ry q hs
theorem pe_ix {r : R2} (hr : IxR X r) (ha : PE X a ta) (hb : PE X b tb) (hs : PlainIx b) : PE X (.Subscript a b pos) (tOp r ta tb) := by
 intro pins s σ H Q I h
 exact Subscript_ (binT ha hb I h fun v u s2 x y H2 I2 rx ry q => hr a b pins s2 σ H2 x y v u Q I2 rx ry q (hs _ _))
def rIxL (K : PySem.W.Frag) : R2 := fun x y H Q => ∃ p xs i v, x = .ref p ∧ y = .int i ∧ SqL K H p xs ∧ atI xs i = some v ∧ Q v H
def rIxT (K : PySem.W.Frag) : R2 := fun x y H Q => ∃ p xs i v, x = .ref p ∧ y = .int i ∧ SqT K H p xs ∧ atI xs i = some v ∧ Q v H
def rIxS : R2 := fun x y H Q => ∃ z i c, x = .str z ∧ y = .int i ∧ z.length ≤ sizeLine ∧ atI z.cps.toList i = some c ∧ Q (.str ⟨#[c]⟩) H
theorem ix_list : IxR X (rIxL X.K) := by
 intro value slice pins s σ H x y v u Q I rx ry h hs
 obtain ⟨p, xs, i, z, rfl, rfl, hq, he, q⟩ := h
 cases rx
 obtain ⟨t, rfl⟩ := ry
 obtain ⟨its, r, pl, hz⟩ := I.list hq
 obtain ⟨j, h1, h2, h3, h4, h5⟩ := atI_get he
 obtain ⟨w, ew, rw'⟩ := r.get h2
 have hl := r.length
 have hn := line63
 have fin : EP X pins σ Q w s := ⟨z, H, I, rw', q⟩
 by_cases h0 : 0 ≤ i
 · have hj : i.toNat = j := by
     rw [seqIndex_of h0 h5] at h1
     exact Option.some.inj h1
   exact item_listR pl.isList h0 (by omega) (by rw [hj]; simpa using ew) fin hs
 · have hj : (i + (its.toArray.size : Int)).toNat = j := by
     rw [seqIndex_neg (by omega) h4] at h1
     rw [List.size_toArray, ← hl]
     exact Option.some.inj h1
   exact subscriptTail_builtinR (x := w) pl.isList.typeIs slot_list_getitem.lookup
     (wpAny_getItem_list_neg (Q := fun r s' => r = w ∧ EP X pins σ Q r s') pl.isList (by omega) (by rw [List.size_toArray] <;> omega) (by omega) (by rw [hj]; simpa using ew) ⟨rfl, fin⟩) hs
theorem ix_tup : IxR X (rIxT X.K) := by
 intro value slice pins s σ H x y v u Q I rx ry h hs
 obtain ⟨p, xs, i, z, rfl, rfl, hq, he, q⟩ := h
 cases rx
 obtain ⟨t, rfl⟩ := ry
 obtain ⟨its, r, pl, hz⟩ := I.tuple hq
 obtain ⟨j, h1, h2, h3, h4, h5⟩ := atI_get he
 obtain ⟨w, ew, rw'⟩ := r.get h2
 have hl := r.length
 have hn := line63
 have fin : EP X pins σ Q w s := ⟨z, H, I, rw', q⟩
 exact subscriptTail_builtinR (x := w) pl.typeIs slot_tuple_getitem.lookup
   (getItem_tuple (j := j) (Q := fun r s' => r = w ∧ EP X pins σ Q r s') pl (by omega) (by omega) (by rw [List.size_toArray, ← hl]; exact h1) (by simpa using ew) ⟨rfl, fin⟩) hs
theorem ix_str : IxR X rIxS := by
 intro value slice pins s σ H x y v u Q I rx ry h hs
 obtain ⟨z, i, c, rfl, rfl, hz, he, q⟩ := h
 obtain ⟨t, rfl⟩ := rx
 obtain ⟨t', rfl⟩ := ry
 obtain ⟨j, h1, h2, h3, h4, h5⟩ := atI_get he
 have hl : z.cps.toList.length = z.length := by simp [Str.length]
 rw [hl] at h1 h4 h5
 have hn := line63
 exact tail_any (typeIs_str s z t) slot_str_getitem.lookup (getItem_str (c := c) (by
   have e1 : decide (i < -(2 ^ 63 : Int)) = false := decide_eq_false (by omega)
   have e2 : decide (i ≥ 2 ^ 63) = false := decide_eq_false (by omega)
   rw [e1, e2, Bool.or_false]) (by rw [h1]; simpa using h2) ⟨.str ⟨#[c]⟩, H, I.tok _, ⟨_, rfl⟩, q⟩) hs
def rIx (K : PySem.W.Frag) : R2 := fun x y H Q => rIxL K x y H Q ∨ rIxT K x y H Q ∨ rIxS x y H Q
theorem ix_seq : IxR X (rIx X.K) := ix_list.or (ix_tup.or ix_str)
theorem slice_bounds (lo hi : Option Int) (n : Nat) : (sliceBounds lo hi none n).1 = ((HT.sIx n 0 lo : Nat) : Int) ∧ (sliceBounds lo hi none n).2.1 = ((HT.sIx n n hi : Nat) : Int) ∧ (sliceBounds lo hi none n).2.2 = 1 := by
 refine ⟨?_, ?_, rfl⟩
 · cases lo with
   | none => simp [sliceBounds, HT.sIx]
   | some i =>
     simp only [sliceBounds, HT.sIx, Option.getD_none, show (1 : Int) > 0 by decide, if_true]
     by_cases h : i < 0
     · simp only [h, if_true] <;> omega
     · simp only [h, if_false] <;> omega
 · cases hi with
   | none => simp [sliceBounds, HT.sIx]
   | some i =>
     simp only [sliceBounds, HT.sIx, Option.getD_none, show (1 : Int) > 0 by decide, if_true]
     by_cases h : i < 0
     · simp only [h, if_true] <;> omega
     · simp only [h, if_false] <;> omega
theorem slicePick_cut (its : List Value) (lo hi : Option Int) : slicePick its.toArray lo hi none = ((its.drop (HT.sIx its.length 0 lo)).take (HT.sIx its.length its.length hi - HT.sIx its.length 0 lo)).toArray := by
 obtain ⟨h1, h2, h3⟩ := slice_bounds lo hi its.toArray.size
 unfold slicePick
 rw [h1, h2, h3]
 simp only [sliceRange_one, pick_run, List.size_toArray] <;> rfl
def rSlL (K : PySem.W.Frag) : V → Option Int → Option Int → Hp → VK → Prop := fun x lo hi H Q => ∃ a xs, x = .ref a ∧ SqL K H a xs ∧ ∀ p, H p = none → Q (.ref p) (upd H p (.lst (cutV xs lo hi)))
theorem sl_list : SlR X (rSlL X.K) := by
 intro pins s σ H x v vl vu lo hi sl Q I rx hs pl pu h
 obtain ⟨a, xs, rfl, hx, q⟩ := h
 cases rx
 obtain ⟨its, r, ht, hz⟩ := I.list hx
 have hlen := r.length
 refine ⟨"list", _, slot_list_getitem.lookup, ht.isList.typeIs, ?_⟩
 refine wpAny_getItem_list_slice ht.isList hs pl pu .none (by simp) ?_ (by rw [List.size_toArray] <;> omega)
 rw [slicePick_cut, ← hlen]
 refine ⟨.ref s.heap.objs.size, _, I.laid (t' := s.toks) (o := .lst (cutV xs lo hi)) (fun b ob q => Heap.get?_push_of_some _ q) (Nat.le_refl _) ?_, rfl, q _ (I.hok.fresh (Nat.le_refl _))⟩
 exact ⟨Nat.le_trans (cutV_length xs lo hi) hz, _, 0, (r.drop (HT.sIx xs.length 0 lo)).take (HT.sIx xs.length xs.length hi - HT.sIx xs.length 0 lo), Heap.get?_push_size _ rfl⟩
theorem CallR.or {f : Value} {r r' : List V → Hp → VK → Prop} (h : CallR X f r) (h' : CallR X f r') : CallR X f (fun xs H Q => r xs H Q ∨ r' xs H Q) := by
 intro pins s σ H xs us Q I rs q
 rcases q with q | q
 · exact h pins s σ H xs us Q I rs q
 · exact h' pins s σ H xs us Q I rs q
theorem call_list_of : CallR X (.type "list") (fun xs H Q => ∃ p ys, xs = [.ref p] ∧ (SqL X.K H p ys ∨ SqT X.K H p ys) ∧ ∀ l, H l = none → Q (.ref l) (upd H l (.lst ys))) := by
 intro pins s σ H xs us Q I r h
 obtain ⟨p, ys, rfl, hq, q⟩ := h
 obtain ⟨u, rfl, rx⟩ := vals1 r
 cases rx
 have fin : ∀ (its : List Value), Vals ys its → ys.length ≤ sizeLine → ∀ (h' : Heap) (c' : Nat), (∀ b o', s.heap.get? b = some o' → h'.get? b = some o') →
     h'.get? s.heap.objs.size = some { cls := .type "list", dict := none, data := .seq its.toArray c', slots := #[] } → EP X pins σ Q (.ref s.heap.objs.size) { s with heap := h' } := fun its r' hz h' c' kp e =>
   ⟨.ref s.heap.objs.size, _, I.laid (t' := s.toks) kp (Nat.le_refl _) (show ObjOk X.prog X.w _ h' _ (.lst ys) from ⟨hz, its, c', r', e⟩), rfl, q _ (I.hok.fresh (Nat.le_refl _))⟩
 rcases hq with hq | hq
 · obtain ⟨its, r', pl, hz⟩ := I.list hq
   have hlen := r'.length
   obtain ⟨o, ho, hc, n, hd⟩ := pl.isList
   exact call_list_seq p (.inl rfl) ho hc hd (fun h' c' kp e => fin its r' hz h' c' kp e) (by simp only [List.size_toArray] <;> omega)
 · obtain ⟨its, r', pl, hz⟩ := I.tuple hq
   have hlen := r'.length
   obtain ⟨o, ho, hc, n, hd⟩ := pl
   exact call_list_seq p (.inr rfl) ho hc hd (fun h' c' kp e => fin its r' hz h' c' kp e) (by simp only [List.size_toArray] <;> omega)
theorem call_tuple_of : CallR X (.type "tuple") (fun xs H Q => ∃ p ys, xs = [.ref p] ∧ ((SqL X.K H p ys ∧ ∀ l, H l = none → Q (.ref l) (upd H l (.tup ys))) ∨ (SqT X.K H p ys ∧ Q (.ref p) H))) := by
 intro pins s σ H xs us Q I r h
 obtain ⟨p, ys, rfl, h⟩ := h
 obtain ⟨u, rfl, rx⟩ := vals1 r
 cases rx
 rcases h with ⟨hq, q⟩ | ⟨hq, q⟩
 · obtain ⟨its, r', pl, hz⟩ := I.list hq
   have hlen := r'.length
   refine call_tuple_list pl.isList (fun h' kp => ?_) (by simp only [List.size_toArray] <;> omega)
   have I1 : Inv X pins σ H { s with heap := h' } := I.kept (t' := s.toks) kp
   have I2 : Inv X pins σ (upd H h'.objs.size (.tup ys)) { s with heap := h'.push { cls := .type "tuple", data := .seq its.toArray } } :=
     I1.laid (t' := s.toks) (fun b o e => Heap.get?_push_of_some _ e) (Nat.le_refl _) (show ObjOk X.prog X.w _ _ _ (.tup ys) from ⟨hz, its, r', IsTup.new _ _⟩)
   exact ⟨.ref h'.objs.size, _, I2, rfl, q _ (I1.hok.fresh (Nat.le_refl _))⟩
 · obtain ⟨its, r', pl, hz⟩ := I.tuple hq
   exact call_tuple_same pl ⟨.ref p, H, I, rfl, q⟩
def tyV (K : PySem.W.Frag) (T : String) (x : V) (H : Hp) : Prop := match x with
 | .str _ => T = "str"
 | .int _ => T = "int"
 | .ref p => (T = "list" ∧ ∃ xs, SqL K H p xs) ∨ (T = "tuple" ∧ ∃ o, K.lookup p = some o ∧ o.cls = .type "tuple" ∧ o.dict = none) ∨
     (T = "dict" ∧ ((∃ kvs, H p = some (.dK kvs)) ∨ ∃ kvs, H p = some (.dT kvs))) ∨ (T = "set" ∧ ∃ S n, H p = some (.set S n))
 | _ => False
theorem tyV_is {pins : List (Addr × Obj)} {σ : St} {H : Hp} {s : Shared} {T : String} {x : V} {v : Value} (I : Inv X pins σ H s) (r : RelV x v) (ty : tyV X.K T x H) :
   s.TypeIs v T ∧ ∀ a, v = .ref a → ∃ ob, s.heap.get? a = some ob ∧ ob.dict = none := by
 cases x with
 | str z =>
   obtain ⟨t, rfl⟩ := r
   cases (show T = "str" from ty)
   exact ⟨typeIs_str s z t, fun _ e => nomatch e⟩
 | int i =>
   obtain ⟨t, rfl⟩ := r
   cases (show T = "int" from ty)
   exact ⟨typeIs_int s i t, fun _ e => nomatch e⟩
 | ref p =>
   cases r
   rcases ty with ⟨rfl, xs, hq⟩ | ⟨rfl, o, hk, hc, hd⟩ | ⟨rfl, hk⟩ | ⟨rfl, S, n, hk⟩
   · obtain ⟨its, _, pl, _⟩ := I.list hq
     refine ⟨pl.isList.typeIs, fun a e => ?_⟩
     cases e
     obtain ⟨o, n, e, c, hd, _⟩ := pl
     exact ⟨o, e, hd⟩
   · refine ⟨⟨o, I.kIn p o hk, hc⟩, fun a e => ?_⟩
     cases e
     exact ⟨o, I.kIn _ o hk, hd⟩
   · have z : ∃ o, s.heap.get? p = some o ∧ o.ExactDict := by
       rcases hk with ⟨kvs, hk⟩ | ⟨kvs, hk⟩
       · obtain ⟨_, _, _, _, o, _, _, e, ex, _⟩ := I.hok p _ hk
         exact ⟨o, e, ex⟩
       · obtain ⟨_, _, _, _, o, _, _, e, ex, _⟩ := I.hok p _ hk
         exact ⟨o, e, ex⟩
     obtain ⟨o, e, ex⟩ := z
     refine ⟨⟨o, e, ex.1⟩, fun a e2 => ?_⟩
     cases e2
     exact ⟨o, e, ex.2.1⟩
   · obtain ⟨o, _, _, _, e, ex, _⟩ := I.hok p _ hk
     refine ⟨⟨o, e, ex.1⟩, fun a e2 => ?_⟩
     cases e2
     exact ⟨o, e, ex.2.1⟩
 | _ => exact False.elim ty
def tBM0 (K : PySem.W.Frag) (T : String) (r : V → List V → Hp → VK → Prop) (to : TE) : TE := fun σ H Q => to σ H fun x H1 => tyV K T x H1 ∧ r x [] H1 Q
def tBM (K : PySem.W.Frag) (T : String) (r : V → List V → Hp → VK → Prop) (to : TE) (t : TA) : TE := fun σ H Q => to σ H fun x H1 => tyV K T x H1 ∧ t σ H1 fun xs H2 => r x xs H2 Q
variable {o e : Expr} {es : List Expr} {to : TE} {t : TA} {name : Str} {apos cpos : Pos} {T id : String} {r : V → List V → Hp → VK → Prop}
theorem pe_bm0 (pa : PlainAttrs T) (slot : Slot T name id) (hty : typeOf (.builtin id) = pure (.type "method_descriptor")) (hm : MtR X id r) (ho : PE X o to)
   (hbase : attributeBase o name X.env (eval o X.env) = eval o X.env := by rfl) (hline : (apos.endLine == cpos.line) = true := by rfl) : PE X (.Call (.Attribute o name apos) [] [] cpos) (tBM0 X.K T r to) := by
 intro pins s σ H Q I h
 refine wpAny_Call_method0_late hbase hline (thn (ho pins s σ H _ I h) fun v s1 ⟨x, H1, I1, r1, ty, q1⟩ => ?_)
 obtain ⟨h1, h2⟩ := tyV_is I1 r1 ty
 exact ⟨T, id, pa, slot, hty, h1, h2, Calls.callWith_builtin rfl (PySem.evalArgs_none (hm pins s1 σ H1 x [] v [] Q I1 r1 .nil q1))⟩
theorem pe_bm (pa : PlainAttrs T) (slot : Slot T name id) (hty : typeOf (.builtin id) = pure (.type "method_descriptor")) (hm : MtR X id r) (ho : PE X o to) (ha : PA X (e :: es) t)
   (hbase : attributeBase o name X.env (eval o X.env) = eval o X.env := by rfl)
   (hfew : ((backTo cpos (starEach (e :: es) X.env)).all (fun x => !x.1) && (backToKw cpos (keywordEach [] X.env)).all (fun x => x.1.isSome)
     && decide ((e :: es).length + ([] : List Keyword).length + (if ([] : List Keyword).isEmpty then 0 else 1) < 30)) = true := by rfl)
   (hline : (apos.endLine == cpos.line) = true := by rfl) (hs : starEach (e :: es) X.env = (false, eval e X.env) :: starEach es X.env := by rfl) (hplain : (backTo cpos (starEach es X.env)).any (·.1) = false := by rfl) :
   PE X (.Call (.Attribute o name apos) (e :: es) [] cpos) (tBM X.K T r to t) := by
 intro pins s σ H Q I h
 refine wpAny_Call_method_late hbase hfew hline rfl (thn (ho pins s σ H _ I h) fun v s1 ⟨x, H1, I1, r1, ty, q1⟩ => ?_)
 obtain ⟨h1, h2⟩ := tyV_is I1 r1 ty
 refine ⟨T, id, pa, slot, hty, h1, h2, ?_⟩
 have hA := ha cpos pins s1 σ H1 _ I1 q1
 rw [hs] at hA ⊢
 refine Calls.callWith_builtin (by show (false || (backTo cpos (starEach es X.env)).any (·.1)) = false; rw [hplain] <;> rfl) (Calls.evalArgs_plain ?_)
 exact thn hA fun us s2 ⟨vs, H2, I2, r2, q2⟩ => hm pins s2 σ H2 x vs v us Q I2 r1 r2 q2
/- xs.append(e), list.index on a module's tuple .. are MtR facts of 06m -/
end
end L2
namespace L2
open PySem PySem.Spec PyProof.Rows
def MtM (X : Cx) (id : String) (r : V → List V → Hp → VK → Prop) : Prop :=
 ∀ (pins : List (Addr × Obj)) (s : Shared) (σ : St) (H : Hp) (x : V) (xs : List V) (v : Value) (us : List Value) (Q : VK), Inv X pins σ H s → RelV x v → Vals xs us → r x xs H Q →
   wpAny (model X.prog X.w) X.A (call (.builtin id) (v :: us)) (EP X pins σ Q) X.xe s
theorem Vals.one : ∀ {x : V} {us : List Value}, Vals [x] us → ∃ u, us = [u] ∧ RelV x u
 | _, _, h => by
   cases h with
   | cons r t => cases t; exact ⟨_, rfl, r⟩
theorem Vals.two : ∀ {x y : V} {us : List Value}, Vals [x, y] us → ∃ u v, us = [u, v] ∧ RelV x u ∧ RelV y v
 | _, _, _, h => by
   cases h with
   | cons r t =>
     cases t with
     | cons q t => cases t; exact ⟨_, _, rfl, r, q⟩
theorem Vals.zero : ∀ {us : List Value}, Vals [] us → us = []
 | _, .nil => rfl
theorem Vals.dropLast {xs : List V} {us : List Value} (h : Vals xs us) : Vals xs.dropLast us.dropLast := by
 induction h with
 | nil => exact .nil
 | cons r t ih =>
   cases t with
   | nil => exact .nil
   | cons q t' => exact .cons r ih
theorem Vals.eraseIdx : ∀ {xs : List V} {us : List Value} (i : Nat), Vals xs us → Vals (xs.eraseIdx i) (us.eraseIdx i)
 | _, _, _, .nil => .nil
 | _, _, 0, .cons _ t => t
 | _, _, i + 1, .cons r t => .cons r (Vals.eraseIdx i t)
theorem Vals.reverse {xs : List V} {us : List Value} (h : Vals xs us) : Vals xs.reverse us.reverse := by
 induction h with
 | nil => exact .nil
 | cons r t ih => rw [List.reverse_cons, List.reverse_cons]; exact Vals.append ih (.cons r .nil)
theorem Vals.rep {xs : List V} {us : List Value} (h : Vals xs us) : ∀ k : Nat, Vals (List.replicate k xs).flatten (List.replicate k us).flatten
 | 0 => .nil
 | k + 1 => by
   rw [List.replicate_succ, List.replicate_succ, List.flatten_cons, List.flatten_cons]
   exact Vals.append h (Vals.rep h k)
theorem erase_last {α : Type} (l : List α) : l.eraseIdx (l.length - 1) = l.dropLast := by
 induction l with
 | nil => rfl
 | cons a r ih =>
   cases r with
   | nil => rfl
   | cons b r =>
     have e : (a :: b :: r).length - 1 = ((b :: r).length - 1) + 1 := by
       have h1 : (a :: b :: r).length = r.length + 2 := rfl
       have h2 : (b :: r).length = r.length + 1 := rfl
       omega
     rw [e, List.eraseIdx_cons_succ, ih]
     all_goals rfl
theorem len_erase {α : Type} : ∀ (l : List α) (i : Nat), (l.eraseIdx i).length ≤ l.length
 | [], _ => Nat.le_refl _
 | _ :: _, 0 => Nat.le_succ _
 | _ :: r, i + 1 => Nat.succ_le_succ (len_erase r i)
theorem foldl_rep (its : List Value) : ∀ (k : Nat) (acc : List Value),
   List.foldl (fun x1 x2 => x1 ++ x2) acc.toArray (List.replicate k its.toArray) = (acc ++ (List.replicate k its).flatten).toArray
 | 0, acc => by simp
 | k + 1, acc => by
   have e : acc.toArray ++ its.toArray = (acc ++ its).toArray := by simp
   have e2 : (acc ++ its) ++ (List.replicate k its).flatten = acc ++ (List.replicate (k + 1) its).flatten := by
     rw [List.replicate_succ, List.flatten_cons, List.append_assoc]
   rw [← e2, ← foldl_rep its k (acc ++ its), ← e, List.replicate_succ, List.foldl_cons]
section
variable {X : Cx} {pins : List (Addr × Obj)} {σ : St} {H : Hp} {s : Shared} {l b : Addr} {xs ys zs : List V}
theorem Inv.lset {its its' : List Value} {n : Nat} {f : Array Value → Array Value} {t' : Nat} (I : Inv X pins σ H s) (hH : H l = some (.lst xs))
   (e : s.heap.get? l = some { cls := .type "list", data := .seq its.toArray n }) (hf : f its.toArray = its'.toArray) (hv : Vals ys its') (hz : ys.length ≤ sizeLine) :
   Inv X pins σ (upd H l (.lst ys)) { s with heap := s.heap.update l (Obj.mapSeq f), toks := t' } := by
 have q := PySem.IsL.update e f
 rw [hf] at q
 refine I.write (x := l) (e := l) (by rw [hH]; exact trivial) (.inl rfl) (fun b' u hb hu => (Heap.get?_update_other s.heap (Obj.mapSeq f) (Ne.symm hb)).trans hu) ⟨_, q⟩ ?_
 exact ⟨hz, its', _, hv, q⟩
theorem Inv.lnew {its : List Value} {t' : Nat} (I : Inv X pins σ H s) (hv : Vals ys its) (hz : ys.length ≤ sizeLine) :
   Inv X pins σ (upd H s.heap.objs.size (.lst ys)) { s with heap := s.heap.push { cls := .type "list", data := .seq its.toArray }, toks := t' } :=
 I.laid (fun _ _ q => Heap.get?_push_of_some _ q) (Nat.le_refl _) ⟨hz, its, 0, hv, Heap.get?_push_size _ rfl⟩
theorem Inv.fresh (I : Inv X pins σ H s) : H s.heap.objs.size = none := I.hok.fresh (Nat.le_refl _)
theorem Inv.lstM (I : Inv X pins σ H s) (hH : H l = some (.lst xs)) : xs.length ≤ sizeLine ∧ ∃ (its : List Value) (n : Nat), Vals xs its ∧ xs.length = its.length ∧ s.heap.get? l = some { cls := .type "list", data := .seq its.toArray n } := by
 obtain ⟨z, its, n, r, e⟩ := I.hok l _ hH
 exact ⟨z, its, n, r, r.length, e⟩
theorem notLongL {n : Nat} (h : n ≤ sizeLine) : Builtin.List.listTooLong n = false := by
 unfold Builtin.List.listTooLong
 exact decide_eq_false (by omega)
end
section
variable {X : Cx}
def rAppend : V → List V → Hp → VK → Prop := fun x vs H Q => ∃ l xs y, x = .ref l ∧ vs = [y] ∧ H l = some (.lst xs) ∧ xs.length < sizeLine ∧ Q .non (upd H l (.lst (xs ++ [y])))
theorem mt_append : MtM X "list.append" rAppend := by
 intro pins s σ H x vs v us Q I rx rv h
 obtain ⟨l, xs, y, rfl, rfl, hH, hz, q⟩ := h
 cases rx
 obtain ⟨u, rfl, ru⟩ := rv.one
 obtain ⟨z, its, n, r, hl, e⟩ := I.lstM hH
 refine call_meets F.slot_list_append ⟨_, e, rfl⟩ F.entry_list_append (F.args_list_append_2 _ _) (PySem.list_append l its.toArray n u (by rw [List.size_toArray]; omega)) ⟨e, ?_⟩
 refine ⟨.non, _, I.lset (its' := its ++ [u]) hH e (by simp) (r.append (.cons ru .nil)) ?_, rfl, q⟩
 rw [List.length_append, List.length_singleton]
 omega
def rExtend : V → List V → Hp → VK → Prop := fun x vs H Q => ∃ l b xs zs, x = .ref l ∧ vs = [.ref b] ∧ H l = some (.lst xs) ∧ H b = some (.lst zs) ∧ xs.length + zs.length ≤ sizeLine ∧ Q .non (upd H l (.lst (xs ++ zs)))
theorem mt_extend : MtM X "list.extend" rExtend := by
 intro pins s σ H x vs v us Q I rx rv h
 obtain ⟨l, b, xs, zs, rfl, rfl, hH, hB, hz, q⟩ := h
 cases rx
 obtain ⟨u, rfl, ru⟩ := rv.one
 cases ru
 obtain ⟨z, its, n, r, hl, e⟩ := I.lstM hH
 obtain ⟨z2, its2, n2, r2, hl2, e2⟩ := I.lstM hB
 have hsz : its.toArray.size + its2.toArray.size ≤ sizeLine := by rw [List.size_toArray, List.size_toArray]; omega
 have hlong : ¬ (!its.toArray.isEmpty && Builtin.List.listTooLong (its.toArray.size + its2.toArray.size)) = true := by
   rw [notLongL hsz, Bool.and_false]
   exact Bool.false_ne_true
 refine call_meets F.slot_list_extend ⟨_, e, rfl⟩ F.entry_list_extend (F.args_list_extend_2 _ _)
   (AutoSeq1.list_extend_list_list_0 l its.toArray n b its2.toArray n2 hlong (by rw [List.size_toArray]; omega) (by omega)) ⟨e, e2, ?_⟩
 refine ⟨.non, _, I.lset (its' := its ++ its2) hH e (by simp) (r.append r2) ?_, rfl, q⟩
 rw [List.length_append]
 omega
def rPop : V → List V → Hp → VK → Prop := fun x vs H Q => ∃ l xs y, x = .ref l ∧ vs = [] ∧ H l = some (.lst xs) ∧ xs[xs.length - 1]? = some y ∧ Q y (upd H l (.lst xs.dropLast))
theorem mt_pop : MtM X "list.pop" rPop := by
 intro pins s σ H x vs v us Q I rx rv h
 obtain ⟨l, xs, y, rfl, rfl, hH, hy, q⟩ := h
 cases rx
 have hus := rv.zero
 subst hus
 obtain ⟨z, its, n, r, hl, e⟩ := I.lstM hH
 obtain ⟨u, hu, ru⟩ := r.get hy
 have hy' : its.toArray[its.toArray.size - 1]? = some u := by
   show its.toArray[its.length - 1]? = some u
   rw [← Array.getElem?_toList, ← hl]
   exact hu
 refine call_meets F.slot_list_pop ⟨_, e, rfl⟩ F.entry_list_pop (F.args_list_pop_1 _) (MeetsSeq.list_pop_last l its.toArray n u hy' (by rw [List.size_toArray]; omega)) ⟨e, ?_⟩
 refine ⟨y, _, I.lset (its' := its.dropLast) hH e ?_ r.dropLast ?_, ru, q⟩
 · show its.toArray.eraseIdxIfInBounds (its.toArray.size - 1) = its.dropLast.toArray
   rw [List.size_toArray, List.eraseIdxIfInBounds_toArray, erase_last]
 · rw [List.length_dropLast]
   omega
def rPopAt : V → List V → Hp → VK → Prop := fun x vs H Q => ∃ l xs i k y, x = .ref l ∧ vs = [.int i] ∧ H l = some (.lst xs) ∧ -(2 ^ 63) ≤ i ∧ i < 2 ^ 63 ∧ seqIndex? i xs.length = some k ∧ xs[k]? = some y ∧ Q y (upd H l (.lst (xs.eraseIdx k)))
theorem mt_popAt : MtM X "list.pop" rPopAt := by
 intro pins s σ H x vs v us Q I rx rv h
 obtain ⟨l, xs, i, k, y, rfl, rfl, hH, h1, h2, hk, hy, q⟩ := h
 cases rx
 obtain ⟨u, rfl, ru⟩ := rv.one
 obtain ⟨t, rfl⟩ := ru
 obtain ⟨z, its, n, r, hl, e⟩ := I.lstM hH
 obtain ⟨w, hw, rw'⟩ := r.get hy
 refine call_meets F.slot_list_pop ⟨_, e, rfl⟩ F.entry_list_pop (F.args_list_pop_2 _ _)
   (MeetsSeq.list_pop_at l its.toArray n i t k w (fitsIndex_both h1 h2) (by rw [List.size_toArray, ← hl]; exact hk) (by rw [← Array.getElem?_toList]; exact hw) (by rw [List.size_toArray]; omega)) ⟨e, ?_⟩
 refine ⟨y, _, I.lset (its' := its.eraseIdx k) hH e ?_ (r.eraseIdx k) ?_, rw', q⟩
 · show its.toArray.eraseIdxIfInBounds k = (its.eraseIdx k).toArray
   rw [List.eraseIdxIfInBounds_toArray]
 · have := len_erase xs k
   omega
def rCat : R2 := fun x y H Q => ∃ l b xs zs, x = .ref l ∧ y = .ref b ∧ H l = some (.lst xs) ∧ H b = some (.lst zs) ∧ xs.length + zs.length ≤ sizeLine ∧ ∀ p, H p = none → Q (.ref p) (upd H p (.lst (xs ++ zs)))
theorem op_cat : OpR X (binaryOp .Add) rCat := by
 intro pins s σ H x y v u Q I rx ry h
 obtain ⟨l, b, xs, zs, rfl, rfl, hH, hB, hz, q⟩ := h
 cases rx
 cases ry
 obtain ⟨z, its, n, r, hl, e⟩ := I.lstM hH
 obtain ⟨z2, its2, n2, r2, hl2, e2⟩ := I.lstM hB
 refine PySem.P.add_list e e2 ?_ (by rw [List.size_toArray, List.size_toArray]; omega)
 have ea : its.toArray ++ its2.toArray = (its ++ its2).toArray := by simp
 rw [ea]
 exact ⟨.ref _, _, I.lnew (t' := s.toks) (r.append r2) (by rw [List.length_append]; omega), rfl, q _ I.fresh⟩
def rRep : R2 := fun x y H Q => ∃ l k xs, x = .ref l ∧ y = .int k ∧ H l = some (.lst xs) ∧ -(2 ^ 63) ≤ k ∧ k < 2 ^ 63 ∧ xs.length * k.toNat ≤ sizeLine ∧
 ∀ p, H p = none → Q (.ref p) (upd H p (.lst (List.replicate k.toNat xs).flatten))
theorem len_rep {α : Type} (xs : List α) (k : Nat) : (List.replicate k xs).flatten.length = k * xs.length := by
 induction k with
 | zero => simp
 | succ k ih => rw [List.replicate_succ, List.flatten_cons, List.length_append, ih, Nat.succ_mul, Nat.add_comm]
theorem op_rep : OpR X (binaryOp .Mult) rRep := by
 intro pins s σ H x y v u Q I rx ry h
 obtain ⟨l, k, xs, rfl, rfl, hH, h1, h2, hz, q⟩ := h
 cases rx
 obtain ⟨t, rfl⟩ := ry
 obtain ⟨z, its, n, r, hl, e⟩ := I.lstM hH
 have hlen : its.toArray.size * k.toNat ≤ sizeLine := by rw [List.size_toArray, ← hl]; exact hz
 have hcap : ¬ its.toArray.size * k.toNat > (2 ^ 63 - 1) / 8 := by
   have : (sizeLine : Nat) ≤ (2 ^ 63 - 1) / 8 := by decide
   omega
 have hfit : ¬ (!Builtin.List.listFitsIndex k) = true := by
   rw [fitsIndex_both h1 h2]
   exact Bool.false_ne_true
 have hlong : ¬ Builtin.List.listTooLong (its.toArray.size * k.toNat) = true := by
   rw [notLongL hlen]
   exact Bool.false_ne_true
 have hnew : List.foldl (fun x1 x2 => x1 ++ x2) #[] (List.replicate (if its.toArray.isEmpty = true then 0 else k.toNat) its.toArray) = (List.replicate k.toNat its).flatten.toArray := by
   have f0 : ∀ m : Nat, List.foldl (fun x1 x2 => x1 ++ x2) #[] (List.replicate m its.toArray) = (List.replicate m its).flatten.toArray := fun m => by
     have := foldl_rep its m []
     rw [List.nil_append] at this
     exact this
   rw [f0]
   cases its with
   | nil => simp
   | cons a r' => rw [if_neg (by simp)]
 refine wpAny_binaryOp_repeat_ref (T := "list") (U := "int") (by decide) ⟨_, e, rfl⟩ (fun s' => typeIs_int s' k t) noFill_list_mul F.fills_int_mul F.slot_int_rmul repeat_list F.slot_int_index.lookup
   (call_meets F.slot_int_rmul (typeIs_int s k t) F.entry_int_rmul (F.args_int_rmul_2 _ _) (int___rmul___int_list k t l its.toArray n)
     ⟨e, rfl, ⟨_, e, rfl⟩, call_meets F.slot_list_mul ⟨_, e, rfl⟩ F.entry_list_mul (F.args_list_mul_2 _ _) (AutoListH.list___mul___list_int_3 l its.toArray n k t hfit hcap hlong) ⟨e, ?_⟩⟩)
 rw [hnew]
 exact ⟨.ref _, _, I.lnew (t' := s.toks) (r.rep k.toNat) (by rw [len_rep, Nat.mul_comm]; exact hz), rfl, q _ I.fresh⟩
end
end L2
namespace L2
open PySem PySem.Spec PyProof.Rows
section
variable {κ : Type} [DecidableEq κ]
def valV (kvs : List (κ × V)) (k : κ) : Option V := (kvs.find? fun kv => decide (kv.1 = k)).map (·.2)
def putK (kvs : List (κ × V)) (k : κ) (v : V) : List (κ × V) :=
 if (kvs.any fun kv => decide (kv.1 = k)) = true then kvs.map (fun kv => if kv.1 = k then (kv.1, v) else kv) else kvs ++ [(k, v)]
theorem valV_pos {p : κ × V} {r : List (κ × V)} {k : κ} (e : p.1 = k) : valV (p :: r) k = some p.2 := by simp [valV, List.find?_cons, e]
theorem valV_neg {p : κ × V} {r : List (κ × V)} {k : κ} (e : ¬ p.1 = k) : valV (p :: r) k = valV r k := by simp [valV, List.find?_cons, e]
theorem valV_any (k : κ) : ∀ kvs : List (κ × V), (kvs.any fun kv => decide (kv.1 = k)) = (valV kvs k).isSome
 | [] => rfl
 | p :: r => by
   rw [List.any_cons]
   by_cases e : p.1 = k
   · simp only [valV_pos e, decide_eq_true e, Bool.true_or, Option.isSome_some]
   · rw [valV_neg e, decide_eq_false e, Bool.false_or]; exact valV_any k r
theorem length_putK (kvs : List (κ × V)) (k : κ) (v : V) : (putK kvs k v).length ≤ kvs.length + 1 := by
 unfold putK
 split
 · rw [List.length_map]; omega
 · rw [List.length_append, List.length_cons, List.length_nil]; omega
theorem RelO.isSome_eq {o : Option V} {u : Option Value} (r : RelO o u) : o.isSome = u.isSome := by
 cases o with
 | none => cases u with
   | none => rfl
   | some _ => exact (show False from r).elim
 | some _ => cases u with
   | none => exact (show False from r).elim
   | some _ => rfl
theorem KV.val {kvs : List (κ × V)} {vs : List (κ × Value)} (r : KV kvs vs) (k : κ) : RelO (valV kvs k) (valueAt vs k) := by
 unfold KV at r
 induction r with
 | nil => exact True.intro
 | @cons p q ps qs h t ih =>
   obtain ⟨h1, h2⟩ := h
   by_cases e : p.1 = k
   · have e' : q.1 = k := h1.symm.trans e
     have b : valueAt (q :: qs) k = some q.2 := by simp [valueAt, List.find?_cons, e']
     rw [valV_pos e, b]; exact h2
   · have e' : ¬ q.1 = k := fun z => e (h1.trans z)
     have b : valueAt (q :: qs) k = valueAt qs k := by simp [valueAt, List.find?_cons, e']
     rw [valV_neg e, b]; exact ih
theorem KV.any {kvs : List (κ × V)} {vs : List (κ × Value)} (r : KV kvs vs) (k : κ) : (kvs.any fun kv => decide (kv.1 = k)) = vs.any fun kv => decide (kv.1 = k) := by
 unfold KV at r
 induction r with
 | nil => rfl
 | cons h t ih => rw [List.any_cons, List.any_cons, ih, h.1]
theorem KV.repl {kvs : List (κ × V)} {vs : List (κ × Value)} (r : KV kvs vs) (k : κ) {y : V} {u : Value} (ry : RelV y u) :
   KV (kvs.map fun kv => if kv.1 = k then (kv.1, y) else kv) (vs.map fun kv => if kv.1 = k then (kv.1, u) else kv) := by
 unfold KV at r ⊢
 induction r with
 | nil => exact .nil
 | @cons p q ps qs h t ih =>
   rw [List.map_cons, List.map_cons]
   refine .cons ?_ ih
   obtain ⟨h1, h2⟩ := h
   by_cases e : p.1 = k
   · rw [if_pos e, if_pos (h1.symm.trans e)]; exact ⟨h1, ry⟩
   · rw [if_neg e, if_neg (fun z => e (h1.trans z))]; exact ⟨h1, h2⟩
theorem KV.put {kvs : List (κ × V)} {vs : List (κ × Value)} (r : KV kvs vs) (k : κ) {y : V} {u : Value} (ry : RelV y u) : KV (putK kvs k y) (stored vs k u) := by
 unfold putK stored
 rw [r.any k]
 by_cases e : (vs.any fun kv => decide (kv.1 = k)) = true
 · rw [if_pos e, if_pos e]; exact r.repl k ry
 · rw [if_neg e, if_neg e]; exact Paired.snoc r ⟨rfl, ry⟩
theorem KV.length {kvs : List (κ × V)} {vs : List (κ × Value)} (r : KV kvs vs) : kvs.length = vs.length := Paired.length r
end
theorem kV_is {P : Program} {w : World} {k : Key} {u : Value} (r : RelV (kV k) u) : (mixKind P w).is k u = true := by
 cases k with
 | inl i => obtain ⟨t, e⟩ := (show ∃ t, u = Value.int i t from r); subst e; exact mixKind_int P w i t
 | inr x => obtain ⟨t, e⟩ := (show ∃ t, u = Value.str x t from r); subst e; exact mixKind_str P w x t
theorem items_are {P : Program} {w : World} : ∀ {ks : List Key} {us : List Value}, Vals (ks.map kV) us → ItemsAre (mixKind P w) ks us
 | [], _, r => by rw [List.map_nil] at r; cases r; exact .nil
 | k :: ks, _, r => by
   rw [List.map_cons] at r
   cases r with
   | cons h t => exact .cons (kV_is h) (items_are t)
abbrev KT (H : Hp) : List (List Key × V) → List (List Key × Addr × Value) → Prop := Paired fun p q => p.1 = q.1 ∧ H q.2.1 = some (.tup (p.1.map kV)) ∧ RelV p.2 q.2.2
theorem KT.val {H : Hp} {kvs : List (List Key × V)} {xs : List (List Key × Addr × Value)} (r : KT H kvs xs) (k : List Key) : RelO (valV kvs k) ((atKey xs k).map (·.2)) := by
 induction r with
 | nil => exact True.intro
 | @cons p q ps qs h t ih =>
   obtain ⟨h1, _, h2⟩ := h
   by_cases e : p.1 = k
   · have e' : q.1 = k := h1.symm.trans e
     have b : atKey (q :: qs) k = some q.2 := by simp [atKey, List.find?_cons, e']
     rw [valV_pos e, b]; exact h2
   · have e' : ¬ q.1 = k := fun z => e (h1.trans z)
     have b : atKey (q :: qs) k = atKey qs k := by simp [atKey, List.find?_cons, e']
     rw [valV_neg e, b]; exact ih
theorem KT.repl {H : Hp} {kvs : List (List Key × V)} {xs : List (List Key × Addr × Value)} (r : KT H kvs xs) (k : List Key) {y : V} {u : Value} (ry : RelV y u) :
   KT H (kvs.map fun kv => if kv.1 = k then (kv.1, y) else kv) (xs.map (putAt k u)) := by
 induction r with
 | nil => exact .nil
 | @cons p q ps qs h t ih =>
   rw [List.map_cons, List.map_cons]
   refine .cons ?_ ih
   obtain ⟨h1, h2, h3⟩ := h
   unfold putAt
   by_cases e : p.1 = k
   · rw [if_pos e, if_pos (h1.symm.trans e)]; exact ⟨h1, h2, ry⟩
   · rw [if_neg e, if_neg (fun z => e (h1.trans z))]; exact ⟨h1, h2, h3⟩
theorem KT.put {H : Hp} {kvs : List (List Key × V)} {xs : List (List Key × Addr × Value)} (r : KT H kvs xs) (k : List Key) {b : Addr} {y : V} {u : Value} (hb : H b = some (.tup (k.map kV))) (ry : RelV y u) :
   KT H (putK kvs k y) (storedH xs k b u) := by
 have e : (kvs.any fun kv => decide (kv.1 = k)) = (atKey xs k).isSome := by
   rw [valV_any, (r.val k).isSome_eq, Option.isSome_map]
 unfold putK storedH
 rw [e]
 by_cases q : (atKey xs k).isSome = true
 · rw [if_pos q, if_pos q]; exact r.repl k ry
 · rw [if_neg q, if_neg q]; exact Paired.snoc r ⟨rfl, hb, ry⟩
theorem KT.keeps {H H' : Hp} {kvs : List (List Key × V)} {xs : List (List Key × Addr × Value)} (r : KT H kvs xs) (ht : ∀ b ys, H b = some (.tup ys) → H' b = some (.tup ys)) : KT H' kvs xs :=
 Paired.mapP r fun _ _ z => ⟨z.1, ht _ _ z.2.1, z.2.2⟩
section
variable {P : Program} {w : World} {H : Hp} {h : Heap} {a : Addr}
theorem rd_of {u : HO} (ok : HOk P w H h) (e : Rd H a u) : ObjOk P w H h a u := e.ok ok
theorem dk_rd {kvs : List (Key × V)} (ok : HOk P w H h) (e : Rd H a (.dK kvs)) : kvs.length ≤ sizeLine ∧ (a == sysModules) = false ∧ ∃ vs, KV kvs vs ∧ h.DictOf (mixKind P w) a vs :=
 show ObjOk P w H h a (.dK kvs) from rd_of ok e
theorem dk_of {kvs : List (Key × V)} (ok : HOk P w H h) (e : H a = some (.dK kvs)) : kvs.length ≤ sizeLine ∧ (a == sysModules) = false ∧ ∃ vs, KV kvs vs ∧ h.DictOf (mixKind P w) a vs := dk_rd ok (.inl e)
theorem key_of {ks : List Key} (ok : HOk P w H h) (e : H a = some (.tup (ks.map kV))) : (tupleKind (mixKind P w)).is h ks a := by
 obtain ⟨_, its, r, o, h1, h2, n, h3⟩ := (show ObjOk P w H h a (.tup (ks.map kV)) from ok a _ e)
 exact ⟨o, its.toArray, n, h1, h2, h3, by simpa using items_are r⟩
theorem dt_rd {kvs : List (List Key × V)} (ok : HOk P w H h) (e : Rd H a (.dT kvs)) : kvs.length ≤ sizeLine ∧ (a == sysModules) = false ∧
   ∃ xs, KT H kvs xs ∧ h.DictOfH (tupleKind (mixKind P w)) a xs := by
 obtain ⟨z, y, xs, r, o, es, ep, h1, h2, h3, h4, h5⟩ := (show ObjOk P w H h a (.dT kvs) from rd_of ok e)
 refine ⟨z, y, xs, r, o, es, ep, h1, h2, h3, h4, fun x hx => ?_, h5⟩
 have all : ∀ {l : List (List Key × V)} {m : List (List Key × Addr × Value)}, KT H l m → ∀ x ∈ m, (tupleKind (mixKind P w)).is h x.1 x.2.1 := by
   intro l m q
   induction q with
   | nil => intro x hx; exact nomatch hx
   | @cons p q ps qs hq t ih =>
     intro x hx
     rcases List.mem_cons.mp hx with e | hx
     · subst e
       exact key_of ok (by rw [← hq.1]; exact hq.2.1)
     · exact ih x hx
 exact all r x hx
theorem dt_of {kvs : List (List Key × V)} (ok : HOk P w H h) (e : H a = some (.dT kvs)) : kvs.length ≤ sizeLine ∧ (a == sysModules) = false ∧
   ∃ xs, KT H kvs xs ∧ h.DictOfH (tupleKind (mixKind P w)) a xs := dt_rd ok (.inl e)
end
def DGet (H : Hp) (a : Addr) (y : V) (r : Option V) : Prop :=
 (∃ kvs k, Rd H a (.dK kvs) ∧ y = kV k ∧ r = valV kvs k) ∨ ∃ kvs k b, Rd H a (.dT kvs) ∧ y = .ref b ∧ H b = some (.tup (k.map kV)) ∧ r = valV kvs k
def DPut (H : Hp) (a : Addr) (y v : V) (H' : Hp) : Prop :=
 (∃ kvs k, H a = some (.dK kvs) ∧ y = kV k ∧ kvs.length < sizeLine ∧ H' = upd H a (.dK (putK kvs k v))) ∨
 ∃ kvs k b, H a = some (.dT kvs) ∧ y = .ref b ∧ H b = some (.tup (k.map kV)) ∧ kvs.length < sizeLine ∧ H' = upd H a (.dT (putK kvs k v))
theorem DGet.k {H : Hp} {a : Addr} {kvs : List (Key × V)} {k : Key} (e : H a = some (.dK kvs)) : DGet H a (kV k) (valV kvs k) := .inl ⟨kvs, k, .inl e, rfl, rfl⟩
theorem DPut.k {H : Hp} {a : Addr} {kvs : List (Key × V)} {k : Key} {v : V} (e : H a = some (.dK kvs)) (hl : kvs.length < sizeLine) : DPut H a (kV k) v (upd H a (.dK (putK kvs k v))) := .inl ⟨kvs, k, e, rfl, hl, rfl⟩
section
variable {X : Cx} {pins : List (Addr × Obj)} {σ : St} {H : Hp} {s : Shared} {a : Addr} {y v : V} {u r : Value} {o : Option V} {A : Around} {E : Value → Shared → Prop}
theorem Inv.big (I : Inv X pins σ H s) : sysModules < s.heap.objs.size := by
 have h : mainGlobals < s.heap.objs.size := (I.mod.glob.keeps I.bk).lt
 exact Nat.lt_trans (by decide) h
theorem d_getItem {Q : Value → Shared → Prop} (hu : A.units + 1 < cLine) (I : Inv X pins σ H s) (g : DGet H a y (some v)) (ry : RelV y u) (h : ∀ w' s', Inv X pins σ H s' → RelV v w' → Q w' s') :
   wpAny (model X.prog X.w) A (getItem (.ref a) u) Q E s := by
 rcases g with ⟨kvs, k, e, ey, l⟩ | ⟨kvs, k, b, e, ey, eb, l⟩
 · subst ey
   obtain ⟨z, hd, vs, rel, dd⟩ := dk_rd I.hok e
   obtain ⟨w', hw, rw'⟩ := RelO.some_of (v := v) (o := valueAt vs k) (by rw [l]; exact rel.val k)
   exact wpAny_getItem_of (kV_is ry) dd.mapOf hw (h w' _ (I.tok _) rw')
 · subst ey
   cases (show u = Value.ref b from ry)
   obtain ⟨z, hd, xs, rel, dd⟩ := dt_rd I.hok e
   obtain ⟨w', hw, rw'⟩ := RelO.some_of (v := v) (o := (atKey xs k).map (·.2)) (by rw [l]; exact rel.val k)
   obtain ⟨p, hp, hp2⟩ := Option.map_eq_some_iff.mp hw
   refine wpAny_getItem_heap (tupleKind_room_in1 hu) (key_of I.hok eb) dd hp ?_
   rw [hp2]
   exact h w' _ (I.tok _) rw'
theorem d_in {Q : Value → Shared → Prop} (hu : A.units + 1 < cLine) (I : Inv X pins σ H s) (g : DGet H a y o) (ry : RelV y u) (h : ∀ s', Inv X pins σ H s' → Q (.bool o.isSome) s') :
   wpAny (model X.prog X.w) A (compareOp .In u (.ref a)) Q E s := by
 rcases g with ⟨kvs, k, e, ey, l⟩ | ⟨kvs, k, b, e, ey, eb, l⟩
 · subst ey
   obtain ⟨z, hd, vs, rel, dd⟩ := dk_rd I.hok e
   refine wpAny_in_of (kV_is ry) hd dd.mapOf ?_
   rw [← (rel.val k).isSome_eq, ← l]
   exact h _ (I.tok _)
 · subst ey
   cases (show u = Value.ref b from ry)
   obtain ⟨z, hd, xs, rel, dd⟩ := dt_rd I.hok e
   refine wpAny_in_heap (tupleKind_room_in1 hu) (key_of I.hok eb) hd dd ?_
   have q := (rel.val k).isSome_eq
   rw [Option.isSome_map] at q
   rw [← q, ← l]
   exact h _ (I.tok _)
theorem d_notIn {Q : Value → Shared → Prop} (hu : A.units + 1 < cLine) (I : Inv X pins σ H s) (g : DGet H a y o) (ry : RelV y u) (h : ∀ s', Inv X pins σ H s' → Q (.bool (!o.isSome)) s') :
   wpAny (model X.prog X.w) A (compareOp .NotIn u (.ref a)) Q E s := by
 rcases g with ⟨kvs, k, e, ey, l⟩ | ⟨kvs, k, b, e, ey, eb, l⟩
 · subst ey
   obtain ⟨z, hd, vs, rel, dd⟩ := dk_rd I.hok e
   refine wpAny_notIn_of (kV_is ry) hd dd.mapOf ?_
   rw [← (rel.val k).isSome_eq, ← l]
   exact h _ (I.tok _)
 · subst ey
   cases (show u = Value.ref b from ry)
   obtain ⟨z, hd, xs, rel, dd⟩ := dt_rd I.hok e
   refine wpAny_notIn_heap (tupleKind_room_in1 hu) (key_of I.hok eb) hd dd ?_
   have q := (rel.val k).isSome_eq
   rw [Option.isSome_map] at q
   rw [← q, ← l]
   exact h _ (I.tok _)
theorem d_write {h' : Heap} {t' : Nat} {ob : HO} (I : Inv X pins σ H s) (mu : Mut (H a)) (hs : Heap.SameBut a s.heap h') (he : ∃ q, h'.get? a = some q) (new : ObjOk X.prog X.w (upd H a ob) h' a ob) :
   Inv X pins σ (upd H a ob) { s with heap := h', toks := t' } :=
 I.write (x := a) (e := a) mu (.inl rfl) (fun b q hb z => (hs.2 b hb).trans z) he new
theorem dk_new {P : Program} {w : World} {H' : Hp} {h' : Heap} {kvs : List (Key × V)} {vs : List (Key × Value)} (z : kvs.length ≤ sizeLine) (hd : (a == sysModules) = false) (rel : KV kvs vs) (dd : h'.DictOf (mixKind P w) a vs) :
   ObjOk P w H' h' a (.dK kvs) := ⟨z, hd, vs, rel, dd⟩
theorem d_setItem {H' : Hp} {Q : Unit → Shared → Prop} (hu : A.units + 1 < cLine) (I : Inv X pins σ H s) (g : DPut H a y v H') (ry : RelV y u) (rv : RelV v r) (h : ∀ s', Inv X pins σ H' s' → Q () s') :
   wpAny (model X.prog X.w) A (setItem (.ref a) u r) Q E s := by
 rcases g with ⟨kvs, k, e, ey, l, eH⟩ | ⟨kvs, k, b, e, ey, eb, l, eH⟩
 · subst ey eH
   obtain ⟨z, hd, vs, rel, dd⟩ := dk_of I.hok e
   have hz : vs.length ≤ sizeLine := by rw [← rel.length]; exact z
   have hl : (putK kvs k v).length ≤ sizeLine := by have := length_putK kvs k v; omega
   refine wpAny_setItem_pairs (hsz := hz) (kV_is ry) dd fun h' dd' hs => h _ ?_
   have he : ∃ q, h'.get? a = some q := let ⟨q, _, _, hq, _⟩ := dd'; ⟨q, hq⟩
   exact d_write I (by rw [e]; exact True.intro) hs he (dk_new hl hd (rel.put k rv) dd')
 · subst ey eH
   cases (show u = Value.ref b from ry)
   obtain ⟨z, hd, xs, rel, dd⟩ := dt_of I.hok e
   have hz : xs.length ≤ sizeLine := by rw [← Paired.length rel]; exact z
   have hl : (putK kvs k v).length ≤ sizeLine := by have := length_putK kvs k v; omega
   refine wpAny_setItem_heap (hsz := hz) (tupleKind_room_in1 hu) (key_of I.hok eb) dd fun h' dd' hs => h _ ?_
   obtain ⟨q, es, ep, hq, h2, h3, h4, _, h5⟩ := dd'
   refine d_write I (by rw [e]; exact True.intro) hs ⟨q, hq⟩ ⟨hl, hd, _, (rel.put k eb rv).keeps fun c ys ec => ?_, q, es, ep, hq, h2, h3, h4, h5⟩
   rw [upd_ne (ne_of ec e (fun z => nomatch z))]
   exact ec
end
section
variable {X : Cx} {pins : List (Addr × Obj)} {σ : St} {H : Hp} {s : Shared} {a : Addr} {kvs : List (Key × V)} {k : Key} {u : Value} {A : Around} {E : Value → Shared → Prop}
theorem d_len {Q : Value → Shared → Prop} (I : Inv X pins σ H s) (e : Rd H a (.dK kvs)) (h : ∀ t s', Inv X pins σ H s' → Q (.int kvs.length t) s') : wpAny (model X.prog X.w) A (call (.builtin "len") [.ref a]) Q E s := by
 obtain ⟨z, hd, vs, rel, dd⟩ := dk_rd I.hok e
 refine call_len_dict hd dd (by rw [← rel.length]; rw [sizeLine_eq] at z; omega) ?_
 rw [← rel.length]
 exact h _ _ (I.tok _)
end
def NoSl (i : Expr) : Prop := ∀ ov iv, subscripted i false ov iv = operate [ov, iv] (getItem ov iv)
theorem subD_of {prog : Program} {w : World} {A : Around} {E : Value → Shared → Prop} {s : Shared} {env : Env} {value slice : Expr} {pos : Pos} {T id : String} {Q : Value → Shared → Prop}
   (hl : typeLookup (.type T) "__getitem__" = pure (some (.builtin id))) (hs : NoSl slice)
   (h : wpAny (model prog w) A (eval value env) (fun o s₁ => wpAny (model prog w) A (eval slice env) (fun i s₂ => s₂.TypeIs o T ∧ wpAny (model prog w) A (getItem o i) Q E s₂) E s₁) E s) :
   wpAny (model prog w) A (eval (.Subscript value slice pos) env) Q E s := by
 refine Subscript_ (wpAny_mono h (fun o s₁ h₁ => wpAny_mono h₁ (fun i s₂ h₂ => ?_) fun _ _ x => x) fun _ _ x => x)
 obtain ⟨hT, h₂⟩ := h₂
 unfold subscriptTail
 refine wpAny_bind ?_
 rw [getitemInPython_of_ne hT.not_modules]
 refine wpAny_bind (wpAny_specialOf hT hl ?_)
 have fin : wpAny (model prog w) A (subscripted slice false o i) (fun r s₃ => wpAny (model prog w) A (letTemporaryGo value o r >>= fun _ => pure r) Q E s₃) E s₂ := by
   rw [hs o i]
   exact wpAny_operating (wpAny_mono h₂ (fun r s₃ h₃ => wpAny_bind (wpAny_letTemporaryGo (wpAny_pure h₃))) fun _ _ x => x)
 first
   | exact wpAny_pure (wpAny_bind fin)
   | exact wpAny_bind (wpAny_pure (wpAny_bind fin))
   | exact wpAny_bind fin
theorem dict_typeIs {X : Cx} {pins : List (Addr × Obj)} {σ : St} {H : Hp} {s : Shared} {a : Addr} {y : V} {o : Option V} (I : Inv X pins σ H s) (g : DGet H a y o) : s.TypeIs (.ref a) "dict" := by
 rcases g with ⟨kvs, k, e, _, _⟩ | ⟨kvs, k, b, e, _, _, _⟩
 · obtain ⟨_, _, vs, _, dd⟩ := dk_rd I.hok e
   exact dd.typeIs
 · obtain ⟨_, _, xs, _, dd⟩ := dt_rd I.hok e
   exact dd.typeIs
def tDGet (td ty : TE) : TE := fun σ H Q => td σ H fun x H1 => ty σ H1 fun y H2 => ∃ a v, x = .ref a ∧ DGet H2 a y (some v) ∧ Q v H2
def tDIn (ty td : TE) : TE := fun σ H Q => ty σ H fun y H1 => td σ H1 fun x H2 => ∃ a o, x = .ref a ∧ DGet H2 a y o ∧ Q (.bl o.isSome) H2
def tDNotIn (ty td : TE) : TE := fun σ H Q => ty σ H fun y H1 => td σ H1 fun x H2 => ∃ a o, x = .ref a ∧ DGet H2 a y o ∧ Q (.bl (!o.isSome)) H2
def sDPut (td ty tv : TE) : TS := fun D σ H => tv σ H fun v H1 => td σ H1 fun x H2 => ty σ H2 fun y H3 => ∃ a H4, x = .ref a ∧ DPut H3 a y v H4 ∧ D.nx σ H4
section
variable {X : Cx} {o i e value : Expr} {pos pos' tpos : Pos} {td ty tv : TE}
theorem pe_dget (hu : X.A.units + 1 < cLine) (ho : PE X o td) (hi : PE X i ty) (hs : NoSl i) : PE X (.Subscript o i pos) (tDGet td ty) := by
 intro pins s σ H Q I h
 refine subD_of PySem.F.slot_dict_getitem.lookup hs (thn (ho pins s σ H _ I h) fun u s1 ⟨x, H1, I1, rx, q1⟩ => thn (hi pins s1 σ H1 _ I1 q1) fun iv s2 ⟨y, H2, I2, ry, a, v, ex, g, q2⟩ => ?_)
 subst ex
 obtain rfl : u = Value.ref a := rx
 exact ⟨dict_typeIs I2 g, d_getItem hu I2 g ry fun w' s3 I3 rw' => ⟨v, H2, I3, rw', q2⟩⟩
theorem pc_din (hu : X.A.units + 1 < cLine) (hi : PE X i ty) (ho : PE X o td) : PC X .In i o (tDIn ty td) := by
 intro pins s σ H Q I h
 refine thn (hi pins s σ H _ I h) fun iv s1 ⟨y, H1, I1, ry, q1⟩ => thn (ho pins s1 σ H1 _ I1 q1) fun u s2 ⟨x, H2, I2, rx, a, ov, ex, g, q2⟩ => ?_
 subst ex
 obtain rfl : u = Value.ref a := rx
 exact d_in hu I2 g ry fun s3 I3 => ⟨.bl ov.isSome, H2, I3, rfl, q2⟩
theorem pc_dnotin (hu : X.A.units + 1 < cLine) (hi : PE X i ty) (ho : PE X o td) : PC X .NotIn i o (tDNotIn ty td) := by
 intro pins s σ H Q I h
 refine thn (hi pins s σ H _ I h) fun iv s1 ⟨y, H1, I1, ry, q1⟩ => thn (ho pins s1 σ H1 _ I1 q1) fun u s2 ⟨x, H2, I2, rx, a, ov, ex, g, q2⟩ => ?_
 subst ex
 obtain rfl : u = Value.ref a := rx
 exact d_notIn hu I2 g ry fun s3 I3 => ⟨.bl (!ov.isSome), H2, I3, rfl, q2⟩
theorem ps_dput (hu : X.A.units + 1 < cLine) (ho : PE X o td) (hi : PE X i ty) (hv : PE X value tv) (hs : swapsWith value (some (.Subscript o i pos')) pos.line X.env = pure false) :
   PS X (.Assign [.Subscript o i pos'] value pos) (sDPut td ty tv) := by
 intro pins s σ H D I h
 refine wpAny_Assign_Subscript (thn (hv pins s σ H _ I h) fun r s1 ⟨v, H1, I1, rv, q1⟩ => thn (ho pins s1 σ H1 _ I1 q1) fun u s2 ⟨x, H2, I2, rx, q2⟩ => thn (hi pins s2 σ H2 _ I2 q2) fun iv s3 ⟨y, H3, I3, ry, a, H4, ex, g, q3⟩ => ?_) hs
 subst ex
 obtain rfl : u = Value.ref a := rx
 exact d_setItem hu I3 g ry rv fun s4 I4 => ⟨σ, H4, I4, q3⟩
end
theorem dk_empty {P : Program} {w : World} {H : Hp} (h : Heap) (hb : sysModules < h.objs.size) : ObjOk P w H (h.push { cls := .type "dict", data := .dict #[] }) h.objs.size (.dK []) :=
 ⟨Nat.zero_le _, beq_eq_false_iff_ne.mpr (Ne.symm (Nat.ne_of_lt hb)), [], .nil, Heap.DictOf.new h⟩
def tDNewK : TE := fun _ H Q => ∀ p, H p = none → Q (.ref p) (upd H p (.dK []))
section
variable {X : Cx} {pos : Pos}
theorem pe_dnewK : PE X (.Dict [] [] pos) tDNewK := fun pins s σ H Q I h =>
 wpAny_Dict_empty ⟨.ref s.heap.objs.size, _, I.laid (a := s.heap.objs.size) (o := .dK []) (t' := s.toks) (fun _ _ q => Heap.get?_push_of_some _ q) (Nat.le_refl _) (dk_empty s.heap I.big), rfl, h _ (I.hok.fresh (Nat.le_refl _))⟩
end
def tPairs : List (TE × TE) → St → Hp → (List (V × V) → Hp → Prop) → Prop
 | [], _, H, Q => Q [] H
 | (tk, tv) :: r, σ, H, Q => tk σ H fun x H1 => tv σ H1 fun y H2 => tPairs r σ H2 fun ps H3 => Q ((x, y) :: ps) H3
abbrev VV : List (V × V) → List (Value × Value) → Prop := Paired fun p q => RelV p.1 q.1 ∧ RelV p.2 q.2
def PPs (X : Cx) (pos : Pos) (keys : List (Option Expr)) (values : List Expr) (trs : List (TE × TE)) : Prop :=
 ∀ (pins : List (Addr × Obj)) (s : Shared) (σ : St) (H : Hp) (Q : List (V × V) → Hp → Prop), Inv X pins σ H s → tPairs trs σ H Q →
   wpAny (model X.prog X.w) X.A (evalPairs (pairTrees keys values X.env pos)) (fun vs s' => ∃ ps H', Inv X pins σ H' s' ∧ VV ps vs ∧ Q ps H') X.xe s
theorem pps_nil {X : Cx} {pos : Pos} : PPs X pos [] [] [] := fun pins s σ H Q I h => pairTrees_nil_walk ⟨[], H, I, .nil, h⟩
theorem pps_cons {X : Cx} {pos : Pos} {k v : Expr} {ks : List (Option Expr)} {vs : List Expr} {tk tv : TE} {trs : List (TE × TE)} (hk : PE X k tk) (hv : PE X v tv) (hr : PPs X pos ks vs trs) :
   PPs X pos (some k :: ks) (v :: vs) ((tk, tv) :: trs) := fun pins s σ H Q I h =>
 pairTrees_cons_walk (thn (hk pins s σ H _ I h) fun u s1 ⟨x, H1, I1, rx, q1⟩ => thn (hv pins s1 σ H1 _ I1 q1) fun w2 s2 ⟨y, H2, I2, ry, q2⟩ =>
   thn (hr pins s2 σ H2 _ I2 q2) fun ws s3 ⟨ps, H3, I3, rel, q3⟩ => ⟨(x, y) :: ps, H3, I3, .cons ⟨rx, ry⟩ rel, q3⟩)
def mergeK (kvs more : List (Key × V)) : List (Key × V) := more.foldl (fun acc kv => putK acc kv.1 kv.2) kvs
theorem KV.merge : ∀ {more : List (Key × V)} {rs : List (Key × Value)} {kvs : List (Key × V)} {vs : List (Key × Value)}, KV more rs → KV kvs vs → KV (mergeK kvs more) (merged vs rs) := by
 intro more rs kvs vs r
 unfold KV at r
 induction r generalizing kvs vs with
 | nil => intro q; exact q
 | @cons p q ps qs h t ih =>
   intro r0
   have e : KV (putK kvs p.1 p.2) (stored vs q.1 q.2) := by
     have := r0.put p.1 h.2
     rw [← h.1]; exact this
   exact ih e
theorem length_mergeK : ∀ (more kvs : List (Key × V)), (mergeK kvs more).length ≤ kvs.length + more.length
 | [], kvs => by show kvs.length ≤ kvs.length + 0; omega
 | p :: r, kvs => by
   have h1 := length_mergeK r (putK kvs p.1 p.2)
   have h2 := length_putK kvs p.1 p.2
   show (mergeK (putK kvs p.1 p.2) r).length ≤ _
   rw [List.length_cons]; omega
theorem carries_of {P : Program} {w : World} : ∀ {kvs : List (Key × V)} {ws : List (Value × Value)}, VV (kvs.map fun kv => (kV kv.1, kv.2)) ws → ∃ rs, Carries (mixKind P w) ws rs ∧ KV kvs rs
 | [], _, r => by rw [List.map_nil] at r; cases r; exact ⟨[], True.intro, .nil⟩
 | p :: kvs, _, r => by
   rw [List.map_cons] at r
   cases r with
   | @cons a b as bs h t =>
     obtain ⟨rs, c, q⟩ := carries_of (P := P) (w := w) t
     obtain ⟨b1, b2⟩ := b
     exact ⟨(p.1, b2) :: rs, ⟨kV_is h.1, rfl, c⟩, .cons ⟨rfl, h.2⟩ q⟩
def tDisp (trs : List (TE × TE)) : TE := fun σ H Q => ∀ p, H p = none → tPairs trs σ (upd H p (.dK [])) fun ps H2 => H2 p = some (.dK []) ∧ ∃ kvs : List (Key × V), ps = kvs.map (fun kv => (kV kv.1, kv.2)) ∧ kvs.length ≤ 15 ∧ Q (.ref p) (upd H2 p (.dK (mergeK [] kvs)))
theorem pe_disp {X : Cx} {pos : Pos} {keys : List (Option Expr)} {values : List Expr} {trs : List (TE × TE)} (h : PPs X pos keys values trs) (hall : keys.all (·.isSome) = true) (hl : keys.length = values.length) (h0 : keys ≠ [])
   (h15 : keys.length ≤ 15) : PE X (.Dict keys values pos) (tDisp trs) := by
 intro pins s σ H Q I q
 have hn := I.hok.fresh (Nat.le_refl s.heap.objs.size)
 have I1 := I.laid (a := s.heap.objs.size) (o := .dK []) (h' := s.heap.push { cls := .type "dict", data := .dict #[] }) (t' := s.toks) (fun _ _ q => Heap.get?_push_of_some _ q) (Nat.le_refl _) (dk_empty s.heap I.big)
 refine wpAny_Dict_walk (knd := mixKind X.prog X.w) hall hl h0 h15 (thn (h pins _ σ _ _ I1 (q _ hn)) fun ws s2 ⟨ps, H2, I2, rel, e, kvs, ep, lk, q2⟩ => ?_)
 subst ep
 obtain ⟨rs, c, rk⟩ := carries_of (P := X.prog) (w := X.w) rel
 obtain ⟨z, hd, vs0, r0, dd⟩ := dk_of I2.hok e
 cases r0
 refine ⟨rs, c, dd, fun h' dd' hs => ⟨.ref s.heap.objs.size, _, ?_, rfl, q2⟩⟩
 have hz : (mergeK [] kvs).length ≤ sizeLine := by
   have h1 := length_mergeK kvs []
   rw [List.length_nil] at h1
   rw [sizeLine_eq]; omega
 have he : ∃ q, h'.get? s.heap.objs.size = some q := let ⟨q, _, _, hq, _⟩ := dd'; ⟨q, hq⟩
 exact d_write I2 (by rw [e]; exact True.intro) hs he (dk_new hz hd (rk.merge .nil) dd')
section
variable {X : Cx} {pins : List (Addr × Obj)} {σ : St} {H : Hp} {s : Shared} {a : Addr} {kvs : List (Key × V)} {A : Around} {E : Value → Shared → Prop}
theorem d_copyOf {Q : Value → Shared → Prop} (I : Inv X pins σ H s) (e : Rd H a (.dK kvs)) (h : ∀ p s', H p = none → Inv X pins σ (upd H p (.dK kvs)) s' → Q (.ref p) s') : wpAny (model X.prog X.w) A (call (.type "dict") [.ref a]) Q E s := by
 obtain ⟨z, hd, vs, rel, dd⟩ := dk_rd I.hok e
 refine kt_call_dict hd dd (by rw [← rel.length]; exact z) fun h' dd' hs => ?_
 refine h _ _ (I.hok.fresh (Nat.le_refl _)) (I.laid (a := s.heap.objs.size) (o := .dK kvs) (t' := s.toks) (fun b q hq => ?_) (Nat.le_refl _) (dk_new z (beq_eq_false_iff_ne.mpr (Ne.symm (Nat.ne_of_lt I.big))) rel dd'))
 exact (hs.2 b (Nat.ne_of_lt (Heap.lt_size hq))).trans (Heap.get?_push_of_some _ hq)
end
end L2
namespace Att
open PySem PySem.W PySem.Calls PyProof.Rows
theorem ints_of_wellAll {P : Params} {h : Heap} : ∀ (ns : List Int) (vs : List Value), WellAll P h vs (ns.map WData.int) → IntsAre vs ns := by
 intro ns
 induction ns with
 | nil =>
   intro vs w
   rw [List.map_nil] at w
   cases w
   exact .nil
 | cons n ns ih =>
   intro vs w
   rw [List.map_cons] at w
   cases w with
   | cons a b =>
     cases a
     exact .cons _ _ (ih _ b)
theorem script_of {l : OpenLaw} {n : Nat} (hn : l.most = some n) {P : Params} {h : Heap} {args : List WData} {vals : List Value}
   (hpre : l.row.toRowW.claim.pre args = true) (hwl : WellAll P h vals args) :
   ∃ a vs ns, vals = [Value.ref a] ∧ args = [WData.list (ns.map WData.int)] ∧ h.get? a = some { cls := .type "list", data := .seq vs.toArray } ∧ IntsAre vs ns ∧ ns.length ≤ n := by
 have hsh : WShape.hasAll [] args [.list .int] = true := (pre_splitW hpre).1
 have hc : l.pre.holds [] { args := args } = true := (pre_splitW hpre).2
 obtain ⟨d, r, rfl, h1, h2⟩ := hasAllW_cons hsh
 obtain rfl := hasAllW_nil h2
 obtain ⟨xs, rfl, h3⟩ := hasW_list h1
 obtain ⟨ns, rfl⟩ := items_int h3
 have hlen : ns.length ≤ n := by
   unfold OpenLaw.pre at hc
   have h4 : (WTm.not (.lt (.lit (.int (n : Int))) (.len (.arg 0)))).holds [] { args := [.list (ns.map .int)] } = true := by
     have h4 := (holds_andW hc).1
     rw [hn] at h4
     exact h4
   have h5 := condW_of h4 (w_not (w_lt w_lit (w_len_list (w_arg rfl))))
   rw [List.length_map] at h5
   refine Nat.le_of_not_lt fun q => ?_
   have q' : (n : Int) < ((ns.length : Nat) : Int) := by omega
   first
     | (rw [decide_eq_true q'] at h5; exact absurd h5 (by decide))
     | (simp at h5; omega)
 cases hwl with
 | cons w1 w2 =>
   cases w2
   cases w1 with
   | list ho hall => exact ⟨_, _, ns, rfl, rfl, ho, ints_of_wellAll ns _ hall, hlen⟩
theorem post_true (l : OpenLaw) (args : List WData) : l.row.toRowW.claim.post args (.bool true) args = true :=
 postW_of (r := l.row.toRowW) (X := (true == true))
   (show WShape.has [] (.bool true) .bool = true by first | rfl | decide | simp [WShape.has, WShape.arms, WShape.armsAll])
   (show (WTm.eq .res (.lit (.bool true))).value [] { args := args, res := some (.bool true), after := args } = some (.bool (true == true)) from w_eq_bool (w_res rfl) w_lit) rfl
theorem attach_call {l : OpenLaw} {n : Nat} {q : Program} {loose : List Str} {XP : (Str → Option Value) → Heap → Prop} {YP : World → Heap → Prop} {d : DefRec}
   (hn : l.most = some n) (hdf : d.params.defaults = [])
   (call : ∀ (w : World) (s₀ s₁ : Shared) (mg mb : Str → Option Value) (fa : Addr) (o : Obj) (pm cd doc : Value) (a : Addr) (vs : List Value) (ns : List Int),
     Ground q loose [] XP w s₀ mg mb s₁.heap → YP w s₁.heap →
     s₁.heap.get? fa = some o → o.data = .func (docDef d.name d.params d.body d.scope pm cd doc) → s₁.heap.CodeRec cd d.name → mg d.name = some (.ref fa) →
     s₁.heap.get? a = some { cls := .type "list", data := .seq vs.toArray } → IntsAre vs ns → ns.length ≤ n → s₁.gens = #[] →
     codeAny (model l.prog w) callerA (.call (.ref fa) ⟨[.ref a], []⟩) (fun r s' => r = .ok (.ret (.bool true)) ∧ OldK s₁.heap s'.heap ∧ s'.os = s₁.os ∧ AllBare s'.gens) s₁) :
   WalkO q loose XP YP l.row.toRowW d [] (fun f vs => PySem.call f vs) := by
 intro w s₀ s₁ mg mb G Y fa o pm cd doc dV kV ho hd hcd hD hmg hg args vals as hpre hlay hrd hwl hlo
 obtain rfl : dV = .none := Dflts.none hD hdf
 obtain rfl : kV = .none := Dflts.noKw hD
 obtain ⟨a, vs, ns, rfl, rfl, hobj, hints, hlen⟩ := script_of hn hpre hwl
 refine enter_call (codeAny_mono (call w s₀ s₁ mg mb fa o pm cd doc a vs ns G Y ho (fd_plain hd) hcd hmg hobj hints hlen hg) fun r s' hq => ?_)
 obtain ⟨rfl, h2, h3, h4⟩ := hq
 exact ⟨.inl ⟨.bool true, .bool true, [], rfl, fun _ => rfl, .bool true, post_true l _, fun _ => ⟨List.Pairwise.nil, fun _ hm => (nomatch hm)⟩⟩, h2, h3, h4⟩
end Att
namespace L2
open PySem PySem.Spec PyProof.Rows
theorem vals_ints : ∀ {vs : List Value} {ns : List Int}, IntsAre vs ns → Vals (ns.map V.int) vs
 | _, _, .nil => .nil
 | _, _, .cons n t h => .cons ⟨t, rfl⟩ (vals_ints h)
def Only (H : Hp) : Prop := ∀ b, H b = none ∨ ∃ o xs, H b = some (.frz o (.lst xs))
theorem law_call {P : Program} {w : World} {K : PySem.W.Frag} {mg mb : Str → Option Value} {CX : CXT} {k : Nat} {fa a : Addr} {fd : FuncData} {x : Str} {sp : Sp} {s₁ : Shared} {vs : List Value} {ns : List Int}
   (KX : K.In s₁.heap) (hns : s₁.heap.Ns mainGlobals mg) (hb : s₁.heap.Ns builtinsNs mb) (hbb : ∀ x : Str, x ≠ "__name__" → mb x = bootBuiltins x) (hlim : s₁.heap.NoLimit) (hg : s₁.gens = #[])
   (ha : s₁.heap.get? a = some { cls := .type "list", data := .seq vs.toArray }) (hi : IntsAre vs ns) (hl : ns.length ≤ sizeLine) (hr : Room k callerA)
   (F : ∀ base : Heap, K.In base → base.Ns mainGlobals mg → FnOk P w K mg base CX k fa fd [x] sp) (hbind : ∀ (s : Shared) (u : Value), BindsTo s fd ⟨[u], []⟩ [(x, u)])
   (hsp : ∀ H : Hp, Only H → SqL K H a (ns.map V.int) → sp [.ref a] H (fun v _ => v = .bl true) fun _ _ _ => False)
   (hCX : ∀ H e s', CX [] H s₁ (fun _ _ _ => False) e s' → False) :
   codeAny (model P w) callerA (.call (.ref fa) ⟨[.ref a], []⟩) (fun r s' => r = .ok (.ret (.bool true)) ∧ OldK s₁.heap s'.heap ∧ s'.os = s₁.os ∧ AllBare s'.gens) s₁ := by
 have rv := vals_ints hi
 have lenV := hi.length
 -- from an abstract heap in which nothing but the script may be tracked
 have core : ∀ H : Hp, Only H → SqL K H a (ns.map V.int) → HOk P w H s₁.heap → (∀ b, H b ≠ none → b = a) → (H a ≠ none → K.lookup a = none) →
     codeAny (model P w) callerA (.call (.ref fa) ⟨[.ref a], []⟩) (fun r s' => r = .ok (.ret (.bool true)) ∧ OldK s₁.heap s'.heap ∧ s'.os = s₁.os ∧ AllBare s'.gens) s₁ := by
   intro H hO hS hok hA hK
   have base_of : ∀ {b : Addr} {o : Obj}, s₁.heap.get? b = some o → H b = none → (hidT s₁.heap H).get? b = some o := fun e n => hidT_get e n
   have noA : ∀ {b : Addr} {o : Obj} {es : Array DictEntry} {ep : Nat}, s₁.heap.get? b = some o → o.data = .dict es ep → H b = none := fun {b o es ep} e d => by
     cases q : H b with
     | none => rfl
     | some u =>
       have e' : b = a := hA b (by rw [q]; simp)
       subst e'
       rw [ha] at e; cases e
       have d' : Data.seq vs.toArray _ = Data.dict es ep := d
       cases d'
   have nsK : ∀ {b : Addr} {m : Str → Option Value}, s₁.heap.Ns b m → (hidT s₁.heap H).Ns b m := fun {b m} ⟨o, es, ep, e, d, r⟩ => ⟨o, es, ep, base_of e (noA e d), d, r⟩
   have hKb : K.In (hidT s₁.heap H) := fun b o e => base_of (KX b o e) (by
     cases q : H b with
     | none => rfl
     | some u =>
       have e' : b = a := hA b (by rw [q]; simp)
       subst e'
       rw [hK (by rw [q]; simp)] at e; cases e)
   have hM : Mod K mg (hidT s₁.heap H) := ⟨hKb, nsK hns, ⟨mb, nsK hb, hbb⟩, let ⟨mc, h1, h2⟩ := hlim; ⟨mc, nsK h1, h2⟩⟩
   have e0 : Env0 P w K mg (hidT s₁.heap H) callerA [] s₁ H := ⟨rfl, hM, fun b o e => of_hidT e, Nat.le_of_eq (hidT_size _ _), trivial, fun b hb => absurd (show b ∈ ([] : List Addr) from hb) (by simp), hok, .of_eq hg⟩
   refine codeAny_mono ((F _ hKb (nsK hns)).run callerA [] s₁ H ⟨[.ref a], []⟩ [.ref a] [.ref a] _ _ hr e0 (hbind s₁ (.ref a)) (.cons rfl .nil) (hsp H hO hS)) fun r s' h => ?_
   cases r with
   | error e => exact (hCX H e s' h).elim
   | ok fl =>
     cases fl with
     | next => exact False.elim h
     | brk => exact False.elim h
     | cont => exact False.elim h
     | ret u =>
       obtain ⟨v, H', os, bare, un, hok', r', q⟩ := h
       have q' : v = .bl true := q
       subst q'
       obtain rfl : u = Value.bool true := r'
       refine ⟨rfl, OldK.of_keep fun b o e => ?_, os, bare⟩
       cases q : H b with
       | none => exact un.keep b o e q (by intro z; exact absurd (show b ∈ ([] : List Addr) from z) (by simp)) (by simp)
       | some u =>
         rcases hO b with z | ⟨ob, xs, z⟩
         · rw [q] at z; cases z
         · have z2 := un.frzs b ob _ z
           obtain ⟨e1, _⟩ := hok b _ z
           obtain ⟨e2, _⟩ := hok' b _ z2
           rw [e] at e1; cases e1
           exact e2
 cases hk : K.lookup a with
 | some o =>
   -- the script is one of the module's own objects
   have e := KX a o hk
   rw [ha] at e
   cases e
   refine core (fun _ => none) (fun _ => .inl rfl) (.inr ⟨_, vs.toArray, _, hk, rfl, rfl, rfl, by rw [List.size_toArray, lenV]; exact hl, by simpa using rv⟩) (fun b u z => by have z' : (none : Option HO) = some u := z; cases z') (fun b z => absurd rfl z) fun z => absurd rfl z
 | none =>
   refine core (fun b => if b = a then some (.frz { cls := .type "list", data := .seq vs.toArray } (.lst (ns.map V.int))) else none) (fun b => ?_) (.inl (.inr ⟨{ cls := .type "list", data := .seq vs.toArray }, if_pos rfl⟩)) (fun b u z => ?_) (fun b z => ?_) fun _ => hk
   · by_cases hb : b = a
     · exact .inr ⟨_, _, if_pos hb⟩
     · exact .inl (if_neg hb)
   · by_cases hb : b = a
     · have z' := (if_pos hb).symm.trans z
       cases z'
       subst hb
       exact ⟨ha, by rw [List.length_map]; exact hl, vs, _, rv, ha⟩
     · have z' := (if_neg hb).symm.trans z
       cases z'
   · by_cases hb : b = a
     · exact hb
     · exact absurd (if_neg hb) z
end L2
namespace L2
open PySem PySem.Spec PyProof.Rows
theorem walk_of {l : PySem.W.OpenLaw} {n k : Nat} {q : Program} {loose : List Str} {XP : (Str → Option Value) → Heap → Prop} {YP : World → Heap → Prop} {d : DefRec} {K : Params → PySem.W.Frag} {CX : World → CXT} {sp : World → Sp} {x : Str}
   (hn : l.most = some n) (hn2 : n ≤ sizeLine) (hdf : d.params.defaults = []) (hr : Room k callerA)
   (hY : ∀ (w : World) (h : Heap), YP w h → (K w.params).In h)
   (F : ∀ (w : World) (mg : Str → Option Value) (fa : Addr) (h : Heap), (K w.params).In h → h.Ns mainGlobals mg → mg d.name = some (.ref fa) →
     ∃ fd : FuncData, (∀ (s : Shared) (u : Value), BindsTo s fd ⟨[u], []⟩ [(x, u)]) ∧
       ∀ base : Heap, (K w.params).In base → base.Ns mainGlobals mg → FnOk l.prog w (K w.params) mg base (CX w) k fa fd [x] (sp w))
   (hsp : ∀ (w : World) (H : Hp) (a : Addr) (ns : List Int), ns.length ≤ n → Only H → SqL (K w.params) H a (ns.map V.int) → sp w [.ref a] H (fun v _ => v = .bl true) fun _ _ _ => False)
   (hCX : ∀ (w : World) (H : Hp) (s : Shared) (e : Value) (s' : Shared), CX w [] H s (fun _ _ _ => False) e s' → False) :
   PySem.W.WalkO q loose XP YP l.row.toRowW d [] (fun f vs => PySem.call f vs) := by
 refine Att.attach_call hn hdf fun w s₀ s₁ mg mb fa o pm cd doc a vs ns G Y ho hd hcd hmg hobj hints hlen hg => ?_
 have KX := hY w _ Y
 obtain ⟨fd, hb, hF⟩ := F w mg fa _ KX G.T.g hmg
 exact law_call KX G.T.g G.T.b G.T.builtins G.T.nolimit hg hobj hints (Nat.le_trans hlen hn2) hr hF hb (fun H hO hS => hsp w H a ns hlen hO hS) fun H e s' => hCX w H s₁ e s'
end L2
namespace L2
open PySem PySem.Spec PyProof.Rows
def defArgs (s : Stmt) : Arguments := match s with
 | .FunctionDef _ a _ _ _ _ _ _ _ _ => a
 | _ => { posonlyargs := [], args := [], vararg := none, kwonlyargs := [], kw_defaults := [], kwarg := none, defaults := [] }
def defBody (s : Stmt) : List Stmt := match s with
 | .FunctionDef _ _ b _ _ _ _ _ _ _ => b
 | _ => []
def defScope (s : Stmt) : Scope := match s with
 | .FunctionDef _ _ _ _ _ _ sc _ _ _ => sc
 | _ => { kind := .function, names := [], isGenerator := false, isCoroutine := false }
abbrev CX0 : CXT := fun _ _ _ _ _ _ => False
abbrev E0 : XK := fun _ _ _ => False
theorem pass0 {X : Cx} : Passes CX0 X E0 := fun _ _ _ _ _ _ _ h => h.elim
structure Fun (K : PySem.W.Frag) (x qual : Str) (st : Stmt) (f : Addr) (fd : FuncData) : Prop where
 ex : ∃ (oc : Value) (od : Option Addr) (kV doc pm : Value) (an : Option Addr) (cdv ct : Value) (osl : Array (Option Value)),
   fd = PySem.W.fnOf x qual (defArgs st) (defBody st) (defScope st) .none kV doc pm an cdv ct ∧ K.lookup f = some ⟨oc, od, .func fd, osl⟩ ∧ PySem.W.codeIn K cdv qual = true
 kp : PySem.W.keepIn K (.ref f) = true
section
variable {P : Program} {w : World} {K : PySem.W.Frag} {mg : Str → Option Value} {base : Heap}
theorem Fun.ok {x qual : Str} {st : Stmt} {f : Addr} {fd : FuncData} {N ps : List Str} {k : Nat} {sp : Sp} (F : Fun K x qual st f fd) (S : FnScope N ps (defScope st)) (len : ∀ vs H Q E, sp vs H Q E → vs.length = ps.length)
   (hbody : ∀ (cdv : Value) (A : Around) (outer : List Env) (s : Shared) (H : Hp) (vs : List V) (Q : VK) (E : XK), Room k (A.deeper (envOfC qual (defScope st) s.heap.objs.size f cdv)) → sp vs H Q E →
     ∃ t, PSs (cxOf CX0 P w K mg base N qual (defScope st) f cdv A outer s H E).nox (defBody st) t ∧ t { nx := fun _ H' => Q .non H', rt := Q } (start N vs) H) : FnOk P w K mg base CX0 (k + 1) f fd ps sp := by
 obtain ⟨oc, od, kV, doc, pm, an, cdv, ct, osl, rfl, lk, hcd⟩ := F.ex
 refine fn_of lk hcd S len fun A outer s H vs Q E hr hsp => ?_
 obtain ⟨t, h, q⟩ := hbody cdv A outer s H vs Q E hr hsp
 exact ⟨t, h.nox, q⟩
theorem Fun.binds {x qual : Str} {st : Stmt} {f : Addr} {fd : FuncData} {ps : List Str} (F : Fun K x qual st f fd)
   (h : ∀ (kV doc pm : Value) (an : Option Addr) (cdv ct : Value) (us : List Value), us.length = ps.length → bindArgs (PySem.W.fnOf x qual (defArgs st) (defBody st) (defScope st) .none kV doc pm an cdv ct) ⟨us, []⟩ = pure (ps.zip us)) : Binds K fd ps [] := by
 obtain ⟨oc, od, kV, doc, pm, an, cdv, ct, osl, rfl, lk, hcd⟩ := F.ex
 exact .all (h kV doc pm an cdv ct)
theorem fun_mk {x qual : Str} {st : Stmt} {f : Addr} {oc : Value} {od an : Option Addr} {osl : Array (Option Value)} {kV doc pm cdv ct : Value} (l : K.lookup f = some ⟨oc, od, .func (PySem.W.fnOf x qual (defArgs st) (defBody st) (defScope st) .none kV doc pm an cdv ct), osl⟩)
   (c : PySem.W.codeIn K cdv qual = true) (k : PySem.W.keepIn K (.ref f) = true) : Fun K x qual st f (PySem.W.fnOf x qual (defArgs st) (defBody st) (defScope st) .none kV doc pm an cdv ct) := ⟨⟨oc, od, kV, doc, pm, an, cdv, ct, osl, rfl, l, c⟩, k⟩
end
theorem hu_of {A : Around} {k : Nat} (hr : Room k A) : A.units + 1 < cLine := Nat.lt_of_le_of_lt (Nat.add_le_add_left (by decide : 1 ≤ 64) _) hr.units
theorem iteF {A B : Prop} (h : B) : if false = true then A else B := by
 rw [if_neg Bool.false_ne_true]
 exact h
theorem iteT {A B : Prop} (h : A) : if true = true then A else B := by
 rw [if_pos rfl]
 exact h
theorem ite2 {c A B : Prop} [Decidable c] (h1 : c → A) (h2 : ¬ c → B) : if c then A else B := by
 by_cases h : c
 · rw [if_pos h]
   exact h1 h
 · rw [if_neg h]
   exact h2 h
def Same (H H' : Hp) : Prop := ∀ b o, H b = some o → H' b = some o
theorem Same.refl (H : Hp) : Same H H := fun _ _ h => h
theorem Same.trans {H H1 H2 : Hp} (a : Same H H1) (b : Same H1 H2) : Same H H2 := fun c o h => b c o (a c o h)
theorem Same.free {H H' : Hp} (e : Same H H') {l : Addr} (h : H' l = Option.none) : H l = Option.none := by
 cases q : H l with
 | none => rfl
 | some o =>
   rw [e l o q] at h
   cases h
theorem Same.seq {K : PySem.W.Frag} {H H' : Hp} {a : Addr} {xs : List V} (e : Same H H') (h : SqL K H a xs) : SqL K H' a xs := by
 rcases h with (h | ⟨o, h⟩) | h
 · exact .inl (.inl (e _ _ h))
 · exact .inl (.inr ⟨o, e _ _ h⟩)
 · exact .inr h
section
variable {X : Cx}
theorem call_lenD : CallR X (.builtin "len") (fun xs H Q => ∃ a kvs, xs = [V.ref a] ∧ H a = some (.dK kvs) ∧ Q (.int kvs.length) H) := by
 intro pins s σ H xs us Q I r h
 obtain ⟨a, kvs, rfl, ha, q⟩ := h
 obtain ⟨u, rfl, ru⟩ := vals1 r
 cases ru
 exact d_len I (.inl ha) fun t s' I' => ⟨.int kvs.length, H, I', ⟨t, rfl⟩, q⟩
end
end L2
set_option maxHeartbeats 4000000
namespace L3
open PySem PySem.Spec
open PyProof.Rows hiding St
open L2
theorem forIn_pure {α β : Type} {l : List α} {f : α → β → Sem (ForInStep β)} (g : α → β → β) : ∀ (c : β), (∀ x ∈ l, ∀ c, f x c = pure (.yield (g x c))) → forIn l c f = pure (l.foldl (fun c x => g x c) c) := by
 induction l with
 | nil => intro c _; rfl
 | cons x l ih =>
   intro c h
   rw [List.forIn_cons, h x List.mem_cons_self, pure_bind]
   exact ih (g x c) fun y hy => h y (List.mem_cons_of_mem _ hy)
def clOf (ns : List (Str × NameKind)) (env : Env) : List (Str × Addr) := ns.foldl (fun cs x => if x.2 == .free then (x.1, (env.cells.lookup x.1).getD 0) :: cs else cs) []
theorem closure_ok {scope : Scope} {env : Env} (h : ∀ p ∈ scope.names, p.2 = .free → ∃ c, env.cells.lookup p.1 = some c) : closureFor scope env = pure (clOf scope.names env) := by
 simp only [closureFor]
 unfold clOf
 rw [forIn_pure (fun (x : Str × NameKind) (cs : List (Str × Addr)) => if x.2 == .free then (x.1, (env.cells.lookup x.1).getD 0) :: cs else cs)]
 · rfl
 · intro x hx c
   obtain ⟨n, k⟩ := x
   dsimp only
   by_cases hk : k = .free
   · subst hk
     obtain ⟨a, ha⟩ := h _ hx rfl
     have ha' : env.cells.lookup n = some a := ha
     simp only [beq_self_eq_true, if_true, cellOf, ha', pure_bind, Option.getD_some]
   · have hb : (k == NameKind.free) = false := by simpa using hk
     simp only [hb, Bool.false_eq_true, if_false]
theorem cl_fold {env : Env} {x : Str} : ∀ (ns : List (Str × NameKind)) (acc : List (Str × Addr)) (c : Addr),
   (ns.foldl (fun cs y => if y.2 == .free then (y.1, (env.cells.lookup y.1).getD 0) :: cs else cs) acc).lookup x = some c → acc.lookup x = some c ∨ ((x, NameKind.free) ∈ ns ∧ c = (env.cells.lookup x).getD 0) := by
 intro ns
 induction ns with
 | nil => intro acc c h; exact .inl h
 | cons y r ih =>
   intro acc c h
   obtain ⟨n, k⟩ := y
   rw [List.foldl_cons] at h
   rcases ih _ c h with h1 | ⟨h1, h2⟩
   · by_cases hk : k = .free
     · subst hk
       simp only [beq_self_eq_true, if_true] at h1
       by_cases hx : x = n
       · subst hx
         rw [List.lookup_cons_self] at h1
         cases h1
         exact .inr ⟨List.mem_cons_self, rfl⟩
       · have hb : (x == n) = false := by simpa using hx
         rw [List.lookup_cons, hb] at h1
         exact .inl h1
     · have hb : (k == NameKind.free) = false := by simpa using hk
       simp only [hb, Bool.false_eq_true, if_false] at h1
       exact .inl h1
   · exact .inr ⟨List.mem_cons_of_mem _ h1, h2⟩
theorem cl_fold_has {env : Env} {x : Str} : ∀ (ns : List (Str × NameKind)) (acc : List (Str × Addr)), (acc.lookup x).isSome = true ∨ (x, NameKind.free) ∈ ns →
   ((ns.foldl (fun cs y => if y.2 == .free then (y.1, (env.cells.lookup y.1).getD 0) :: cs else cs) acc).lookup x).isSome = true := by
 intro ns
 induction ns with
 | nil => intro acc h; rcases h with h | h
          · exact h
          · exact absurd h (by simp)
 | cons y r ih =>
   intro acc h
   obtain ⟨n, k⟩ := y
   rw [List.foldl_cons]
   refine ih _ ?_
   by_cases hk : k = .free
   · subst hk
     simp only [beq_self_eq_true, if_true]
     by_cases hx : x = n
     · subst hx
       left
       rw [List.lookup_cons_self]
       rfl
     · have hb : (x == n) = false := by simpa using hx
       rw [List.lookup_cons, hb]
       rcases h with h | h
       · exact .inl h
       · rcases List.mem_cons.mp h with z | z
         · injection z with z1 _
           exact absurd z1 hx
         · exact .inr z
   · have hb : (k == NameKind.free) = false := by simpa using hk
     simp only [hb, Bool.false_eq_true, if_false]
     rcases h with h | h
     · exact .inl h
     · rcases List.mem_cons.mp h with z | z
       · injection z with _ z2
         exact absurd z2.symm hk
       · exact .inr z
theorem cl_of {ns : List (Str × NameKind)} {env : Env} {x : Str} {c : Addr} (h : (clOf ns env).lookup x = some c) : (x, NameKind.free) ∈ ns ∧ c = (env.cells.lookup x).getD 0 := by
 rcases cl_fold ns [] c h with z | z
 · cases z
 · exact z
theorem cl_has {ns : List (Str × NameKind)} {env : Env} {x : Str} {c : Addr} (h : (x, NameKind.free) ∈ ns) (e : env.cells.lookup x = some c) : (clOf ns env).lookup x = some c := by
 obtain ⟨d, hd⟩ := Option.isSome_iff_exists.mp (cl_fold_has (env := env) ns [] (.inr h))
 have hd' : (clOf ns env).lookup x = some d := hd
 rw [hd', (cl_of hd').2, e]
 rfl
theorem lookup_relabel {env : Env} {x : Str} : ∀ (names : List (Str × NameKind)),
   (names.map fun (n, k) => if (k == NameKind.free && env.scope.kind == .function && env.kindOf n == some .cell) then (n, NameKind.cell) else (n, k)).lookup x =
     (names.lookup x).map fun k => if (k == NameKind.free && env.scope.kind == .function && env.kindOf x == some .cell) then NameKind.cell else k
 | [] => rfl
 | (n, k) :: r => by
   have ih := lookup_relabel (env := env) (x := x) r
   show List.lookup x ((if (k == NameKind.free && env.scope.kind == .function && env.kindOf n == some .cell) = true then (n, NameKind.cell) else (n, k)) :: _) = _
   by_cases hx : x = n
   · subst hx
     by_cases hc : (k == NameKind.free && env.scope.kind == .function && env.kindOf x == some .cell) = true
     · rw [if_pos hc, List.lookup_cons_self, List.lookup_cons_self, Option.map_some, if_pos hc]
     · rw [if_neg hc, List.lookup_cons_self, List.lookup_cons_self, Option.map_some, if_neg hc]
   · have hb : (x == n) = false := by simpa using hx
     by_cases hc : (k == NameKind.free && env.scope.kind == .function && env.kindOf n == some .cell) = true
     · rw [if_pos hc, List.lookup_cons, hb, List.lookup_cons, hb]; exact ih
     · rw [if_neg hc, List.lookup_cons, hb, List.lookup_cons, hb]; exact ih
theorem cf_ok {x : Str} {c : Addr} : ∀ (names : List (Str × NameKind)) (h : Heap) (acc : List (Str × Addr)), (cellsFrom h.objs.size names acc).lookup x = some c →
   acc.lookup x = some c ∨ ((x, NameKind.cell) ∈ names ∧ h.objs.size ≤ c ∧ (pushCells h names).IsCell c none)
 | [], _, _, e => .inl e
 | (n, k) :: r, h, acc, e => by
   unfold cellsFrom at e
   unfold pushCells
   by_cases hk : k = .cell
   · subst hk
     simp only [beq_self_eq_true, if_true] at e ⊢
     rw [← Heap.size_push h { cls := .type "cell", data := .cell none }] at e
     rcases cf_ok r _ _ e with z | ⟨z1, z2, z3⟩
     · by_cases hx : x = n
       · subst hx
         rw [List.lookup_cons_self] at z
         cases z
         exact .inr ⟨List.mem_cons_self, Nat.le_refl _, ⟨_, pushCells_keeps r _ _ _ (Heap.get?_push_size _ rfl), rfl⟩⟩
       · have hb : (x == n) = false := by simpa using hx
         rw [List.lookup_cons, hb] at z
         exact .inl z
     · rw [Heap.size_push] at z2
       exact .inr ⟨List.mem_cons_of_mem _ z1, by omega, z3⟩
   · have hb : (k == NameKind.cell) = false := by simpa using hk
     simp only [hb, Bool.false_eq_true, if_false] at e ⊢
     rcases cf_ok r h acc e with z | ⟨z1, z2, z3⟩
     · exact .inl z
     · exact .inr ⟨List.mem_cons_of_mem _ z1, z2, z3⟩
theorem cf_has {x : Str} : ∀ (names : List (Str × NameKind)) (n : Nat) (acc : List (Str × Addr)), (x, NameKind.cell) ∉ names → (cellsFrom n names acc).lookup x = acc.lookup x
 | [], _, _, _ => rfl
 | (y, k) :: r, n, acc, h => by
   have hr : (x, NameKind.cell) ∉ r := fun z => h (List.mem_cons_of_mem _ z)
   unfold cellsFrom
   by_cases hk : k = .cell
   · subst hk
     simp only [beq_self_eq_true, if_true]
     have hx : (x == y) = false := by
       have : x ≠ y := fun z => h (by rw [z]; exact List.mem_cons_self)
       simpa using this
     rw [cf_has r _ _ hr, List.lookup_cons, hx]
   · have hb : (k == NameKind.cell) = false := by simpa using hk
     simp only [hb, Bool.false_eq_true, if_false]
     exact cf_has r n acc hr
theorem cf_inj : ∀ (names : List (Str × NameKind)) (n : Nat) (acc : List (Str × Addr)), (∀ x c, acc.lookup x = some c → c < n) → (∀ x y c, acc.lookup x = some c → acc.lookup y = some c → x = y) →
   ∀ x y c, (cellsFrom n names acc).lookup x = some c → (cellsFrom n names acc).lookup y = some c → x = y
 | [], _, _, _, hi => hi
 | (a, k) :: r, n, acc, hb, hi => by
   unfold cellsFrom
   by_cases hk : k = .cell
   · subst hk
     simp only [beq_self_eq_true, if_true]
     have lk : ∀ x c, ((a, n) :: acc).lookup x = some c → (x = a ∧ c = n) ∨ (x ≠ a ∧ acc.lookup x = some c) := fun x c e => by
       by_cases hx : x = a
       · subst hx; rw [List.lookup_cons_self] at e; cases e; exact .inl ⟨rfl, rfl⟩
       · have hz : (x == a) = false := by simpa using hx
         rw [List.lookup_cons, hz] at e
         exact .inr ⟨hx, e⟩
     refine cf_inj r (n + 1) _ (fun x c e => ?_) fun x y c e1 e2 => ?_
     · rcases lk x c e with ⟨_, z⟩ | ⟨_, z⟩
       · rw [z]; exact Nat.lt_succ_self _
       · exact Nat.lt_succ_of_lt (hb x c z)
     · rcases lk x c e1 with ⟨z1, w1⟩ | ⟨z1, w1⟩ <;> rcases lk y c e2 with ⟨z2, w2⟩ | ⟨z2, w2⟩
       · rw [z1, z2]
       · exact absurd (hb y c w2) (by rw [w1]; exact Nat.lt_irrefl _)
       · exact absurd (hb x c w1) (by rw [w2]; exact Nat.lt_irrefl _)
       · exact hi x y c w1 w2
   · have hz : (k == NameKind.cell) = false := by simpa using hk
     simp only [hz, Bool.false_eq_true, if_false]
     exact cf_inj r n acc hb hi
theorem new_env_cl {M : Model} {A : Around} {E : Value → Shared → Prop} {s : Shared} {scope : Scope} {globals : Addr} {cl : List (Str × Addr)} {qual : Str} {code : Value} {env : Env} {builtins : Addr} {Q : Env → Shared → Prop}
   (h : ∀ h', h'.Ns s.heap.objs.size (fun _ => none) → (∀ b o, s.heap.get? b = some o → h'.get? b = some o) → (∀ x c, (cellsFrom (s.heap.objs.size + 1) scope.names cl).lookup x = some c → cl.lookup x = some c ∨ ((x, NameKind.cell) ∈ scope.names ∧ s.heap.objs.size + 1 ≤ c ∧ h'.IsCell c none)) →
     Q (newEnv scope s.heap.objs.size globals (cellsFrom (s.heap.objs.size + 1) scope.names cl) qual none code (some env) builtins) { s with heap := h' }) :
   wpAny M A (newFunctionEnv scope globals cl [] qual none code (some env) builtins) Q E s := by
 simp only [newFunctionEnv, Option.isSome_some, if_true]
 refine wpAny_bind (wpAny_alloc ?_)
 refine wpAny_bind (wpAny_layCells _ (fun name kind cells => by cases hkc : kind == NameKind.cell <;> simp [hkc]) _ _ _ _ ?_)
 rw [show ({ s with heap := s.heap.push { cls := .type "dict", data := .dict #[] } } : Shared).heap.objs.size = s.heap.objs.size + 1 from Heap.size_push ..]
 rw [List.forIn_nil]
 refine wpAny_bind (wpAny_pure (wpAny_pure (h _ ((Heap.Ns.new s.heap (.type "dict")).keeps (pushCells_keeps _ _)) (fun b o e => pushCells_keeps _ _ b o (Heap.get?_push_of_some _ e)) fun x c e => ?_)))
 have := cf_ok scope.names (s.heap.push { cls := .type "dict", data := .dict #[] }) cl (x := x) (c := c) (by rw [Heap.size_push]; exact e)
 rwa [Heap.size_push] at this
def compCx (X : Cx) (scope : Scope) (N' : List Str) (C : Addr) (s : Shared) (H : Hp) (ex : List Addr) : Cx :=
 { X with N := N', s₀ := s, H₀ := H, env := compEnvC scope (cellsFrom (C + 1) scope.names (clOf scope.names X.env)) C X.env, outer := X.stack, stack := X.stack, ex := ex, fn := fun x => scope.names.lookup x == some .cell, pn := [], xe := fun _ _ => False }
def scopeOk (h : Nat) (N' N : List Str) (names sc : List (Str × NameKind)) : Bool :=
 decide (N'.length = h + N.length) && decide N'.Nodup
 && (names.all fun p => (p.2 != .cell || names.lookup p.1 == some .cell) && (p.2 != .local || names.lookup p.1 == some .local) && (p.2 != .free || (names.lookup p.1 == some .free && (sc.lookup p.1 == some .cell || sc.lookup p.1 == some .free))))
 && (((N'.drop h).zip N).all fun p => match names.lookup p.1 with | some .free => p.1 == p.2 | some .local => false | some .cell => false | _ => true)
structure ScopeOk (h : Nat) (N' N : List Str) (scope : Scope) (sc : Scope) : Prop where
 kind : scope.kind = .function
 len : N'.length = h + N.length
 nd : N'.Nodup
 cell : ∀ y ∈ scope.names, y.2 = .cell → scope.names.lookup y.1 = some .cell
 loc : ∀ y ∈ scope.names, y.2 = .local → scope.names.lookup y.1 = some .local
 free : ∀ y ∈ scope.names, y.2 = .free → scope.names.lookup y.1 = some .free ∧ (sc.names.lookup y.1 = some .cell ∨ sc.names.lookup y.1 = some .free)
 out : ∀ (i : Nat) (x : Str) (k : NameKind), N'[h + i]? = some x → scope.names.lookup x = some k → (k = .local ∨ k = .cell ∨ k = .free) → N[i]? = some x ∧ k = .free
theorem ScopeOk.of {h : Nat} {N' N : List Str} {scope sc : Scope} (hk : scope.kind = .function) (e : scopeOk h N' N scope.names sc.names = true) : ScopeOk h N' N scope sc := by
 unfold scopeOk at e
 simp only [Bool.and_eq_true, decide_eq_true_eq, List.all_eq_true] at e
 obtain ⟨⟨⟨e1, e2⟩, e3⟩, e4⟩ := e
 refine ⟨hk, e1, e2, fun y hy z => ?_, fun y hy z => ?_, fun y hy z => ?_, fun i x k hx hl hkk => ?_⟩
 · have := e3 y hy
   rw [z] at this
   simpa using this
 · have := e3 y hy
   rw [z] at this
   simpa using this
 · have := e3 y hy
   rw [z] at this
   simpa using this
 · have h1 : (N'.drop h)[i]? = some x := by rw [List.getElem?_drop]; exact hx
   have hi : i < N.length := by
     obtain ⟨z, _⟩ := List.getElem?_eq_some_iff.mp hx
     omega
   have h2 : N[i]? = some N[i] := List.getElem?_eq_getElem hi
   have hm : (x, N[i]) ∈ (N'.drop h).zip N := by
     refine List.mem_of_getElem? (i := i) ?_
     rw [List.getElem?_zip_eq_some]
     exact ⟨h1, h2⟩
   have q := e4 _ hm
   rw [hl] at q
   rcases hkk with rfl | rfl | rfl
   · exact absurd q (by simp)
   · exact absurd q (by simp)
   · have q' : x = N[i] := by simpa using q
     exact ⟨by rw [h2, ← q'], rfl⟩
def PF (X : Cx) (ifs : List Expr) (t : TT) : Prop :=
 ∀ (pins : List (Addr × Obj)) (s : Shared) (σ : St) (H : Hp) (Q : Bool → Hp → Prop), Inv X pins σ H s → t σ H Q →
   wpAny (model X.prog X.w) X.A (forIn ifs true fun c r => if r = true then do let ok ← isTrue c X.env (eval c X.env); pure (ForInStep.yield ok) else pure (ForInStep.yield r)) (TP X pins σ Q) X.xe s
def tYes : TT := fun _ H Q => Q true H
theorem pf_nil {X : Cx} : PF X [] tYes := fun _ _ _ H _ I h => wpAny_tests_nil ⟨H, I, h⟩
theorem pf_one {X : Cx} {c : Expr} {t : TT} (h : PT X c t) : PF X [c] t := fun pins s σ H Q I q => wpAny_tests_one (h pins s σ H Q I q)
def OwnG (h : Nat) (g : TG) : Prop := ∀ v (σ : St) H Q, h ≤ σ.length → g v σ H Q → g v σ H fun σ2 H2 => Q σ2 H2 ∧ σ2.length = σ.length ∧ σ2.drop h = σ.drop h
theorem own_name {h i : Nat} (hi : i < h) : OwnG h (gName i) := fun v σ H Q hl q => ⟨q, by simp, by rw [List.drop_set_of_lt hi]⟩
def OwnGs (h : Nat) (g : TGs) : Prop := ∀ vs (σ : St) H Q, h ≤ σ.length → g vs σ H Q → g vs σ H fun σ2 H2 => Q σ2 H2 ∧ σ2.length = σ.length ∧ σ2.drop h = σ.drop h
theorem own_nil {h : Nat} : OwnGs h gNil := fun vs σ H Q _ q => ⟨q.1, q.2, rfl, rfl⟩
def MonG (g : TG) : Prop := ∀ v σ H (Q Q' : St → Hp → Prop), (∀ σ H, Q σ H → Q' σ H) → g v σ H Q → g v σ H Q'
def MonGs (g : TGs) : Prop := ∀ v σ H (Q Q' : St → Hp → Prop), (∀ σ H, Q σ H → Q' σ H) → g v σ H Q → g v σ H Q'
theorem mon_name {i : Nat} : MonG (gName i) := fun _ _ _ _ _ h q => h _ _ q
theorem mon_nil : MonGs gNil := fun _ _ _ _ _ h q => ⟨q.1, h _ _ q.2⟩
theorem mon_cons {g : TG} {gs : TGs} (a : MonG g) (b : MonGs gs) : MonGs (gCons g gs) := fun vs σ H Q Q' h ⟨v, r, e, q⟩ => ⟨v, r, e, a _ _ _ _ _ (fun σ' H' z => b _ _ _ _ _ h z) q⟩
theorem own_cons {h : Nat} {g : TG} {gs : TGs} (m : MonG g) (m2 : MonGs gs) (a : OwnG h g) (b : OwnGs h gs) : OwnGs h (gCons g gs) := fun vs σ H Q hl ⟨v, r, e, q⟩ => by
 refine ⟨v, r, e, m _ _ _ _ _ (fun σ' H' z => ?_) (a v σ H _ hl q)⟩
 obtain ⟨z1, z2, z3⟩ := z
 exact m2 _ _ _ _ _ (fun σ2 H2 ⟨y1, y2, y3⟩ => ⟨y1, y2.trans z2, y3.trans z3⟩) (b r σ' H' Q (by omega) z1)
theorem own_tup {K : PySem.W.Frag} {h n : Nat} {gs : TGs} (b : OwnGs h gs) : OwnG h (gTup K n gs) := fun v σ H Q hl ⟨a, xs, e1, e2, e3, q⟩ => ⟨a, xs, e1, e2, e3, b xs σ H Q hl q⟩
theorem mon_tup {K : PySem.W.Frag} {n : Nat} {gs : TGs} (b : MonGs gs) : MonG (gTup K n gs) := fun v σ H Q Q' h ⟨a, xs, e1, e2, e3, q⟩ => ⟨a, xs, e1, e2, e3, b xs σ H Q Q' h q⟩
def tComp (h : Nat) (wi : TI) (g : TG) (tf : TT) (te : TE) : TE := fun σ H Q => wi σ H fun J H1 => ∀ D, H1 D = none → ∃ W : Nat → Nat → List V → Hp → Prop, (∃ m, W 0 m [] (upd H1 D (.lst []))) ∧ ∀ i m ys H, W i m ys H →
 H D = some (.lst ys) ∧ ((J.stop i H ∧ Q (.ref D) H) ∨ (J.go i H ∧ ∀ x H', J.yld i H x H' → g x (List.replicate h none ++ σ) H' fun σ2 H2 => tf σ2 H2 fun c H3 =>
   if c = true then te σ2 H3 fun y H4 => H4 D = some (.lst ys) ∧ ys.length < sizeLine ∧ ∃ m', m' < m ∧ W (i + 1) m' (ys ++ [y]) (upd H4 D (.lst (ys ++ [y]))) else ∃ m', m' < m ∧ W (i + 1) m' ys H3))
theorem compLoop_go {prog : Program} {w : World} {A : Around} {R : Result → Shared → Prop} {s : Shared} {elt target iter : Expr} {ifs : List Expr} {scope : Scope} {pos : Pos} {it acc : Value} {env : Env} (I : Nat → Shared → Prop)
   (turn : ∀ n s, I n s → wpAny (model prog w) A (pyNext it) (fun r s₁ => match r with
     | none => R (.ok .next) s₁
     | some v => wpAny (model prog w) A (letOwnedTupleGo target it v) (fun _ s₀ => wpAny (model prog w) A (assign target env v) (fun _ s₂ =>
         wpAny (model prog w) A (forIn ifs true fun c r => if r = true then do let ok ← isTrue c env (eval c env); pure (ForInStep.yield ok) else pure (ForInStep.yield r)) (fun ok s₃ =>
           if ok = true then wpAny (model prog w) A (eval elt env) (fun x s₄ =>
             wpAny (model prog w) A (call (.builtin "list.append") [acc, x]) (fun _ s₅ => ∃ m, m < n ∧ I m s₅) (fun _ _ => False) s₄) (fun _ _ => False) s₃
           else ∃ m, m < n ∧ I m s₃) (fun _ _ => False) s₂) (fun _ _ => False) s₀) (fun _ _ => False) s₁) (fun _ _ => False) s)
   (n : Nat) (h : I n s) : codeAny (model prog w) A (.compLoop (.ListComp elt [⟨target, iter, ifs, 0⟩] scope pos) 0 it acc env) R s := by
 refine codeAny_loop rfl I (fun n s hI => ?_) n h
 show wpAny _ A ((compTurn (.ListComp elt [⟨target, iter, ifs, 0⟩] scope pos) 0 it acc env).onRaise (fun x => do noteFrame x env; theTreesLotGoes x)) _ _ s
 refine wpAny_noted ?_
 rw [compTurn_list]
 refine wpAny_bind (wpAny_standAt (wpAny_bind (wpAny_mono (turn n s hI) (fun r s₁ h₁ => ?_) fun _ _ h' => h'.elim)))
 cases r with
 | none => exact wpAny_pure h₁
 | some v =>
   refine wpAny_bind (wpAny_mono h₁ (fun _ s₀ h₀ => ?_) fun _ _ h' => h'.elim)
   refine wpAny_bind (wpAny_mono h₀ (fun _ s₂ h₂ => wpAny_bind (wpAny_mono h₂ (fun ok s₃ h₃ => ?_) fun _ _ h' => h'.elim)) fun _ _ h' => h'.elim)
   cases ok with
   | false => exact wpAny_pure ⟨rfl, h₃⟩
   | true =>
     exact wpAny_bind (wpAny_bind (wpAny_mono h₃ (fun x s₄ h₄ => wpAny_bind (wpAny_mono h₄ (fun _ s₅ h₅ => wpAny_pure (wpAny_pure ⟨rfl, h₅⟩)) fun _ _ h' => h'.elim)) fun _ _ h' => h'.elim))
section
variable {X : Cx} {pins : List (Addr × Obj)} {σ : St} {H : Hp} {s : Shared}
theorem comp_cl {h : Nat} {N' : List Str} {scope : Scope} (I : Inv X pins σ H s) (S : ScopeOk h N' X.N scope X.env.scope) : ∀ x c, (clOf scope.names X.env).lookup x = some c → X.env.cells.lookup x = some c := fun x c e => by
 obtain ⟨h1, h2⟩ := cl_of e
 obtain ⟨d, hd⟩ := I.ok.has x (S.free _ h1 rfl).2
 rw [hd] at h2 ⊢
 rw [h2]; rfl
theorem comp_nf {h : Nat} {N' : List Str} {scope : Scope} (S : ScopeOk h N' X.N scope X.env.scope) {x : Str} (hf : (x, NameKind.free) ∈ scope.names) : (x, NameKind.cell) ∉ scope.names := fun z => by
 have a := (S.free _ hf rfl).1
 have b := S.cell _ z rfl
 rw [show scope.names.lookup x = some .free from a] at b
 cases b
theorem comp_cells {h : Nat} {N' : List Str} {scope : Scope} (I : Inv X pins σ H s) (S : ScopeOk h N' X.N scope X.env.scope) : ∀ x c, (cellsFrom (s.heap.objs.size + 1) scope.names (clOf scope.names X.env)).lookup x = some c → X.env.cells.lookup x = some c ∨ ((x, NameKind.cell) ∈ scope.names ∧ s.heap.objs.size + 1 ≤ c) := fun x c e => by
 have z := cf_ok scope.names (s.heap.push { cls := .type "dict", data := .dict #[] }) (clOf scope.names X.env) (x := x) (c := c) (by rw [Heap.size_push]; exact e)
 rw [Heap.size_push] at z
 rcases z with z | ⟨z1, z2, _⟩
 · exact .inl (comp_cl I S x c z)
 · exact .inr ⟨z1, z2⟩
theorem comp_below {h : Nat} {N' : List Str} {scope : Scope} (I : Inv X pins σ H s) (S : ScopeOk h N' X.N scope X.env.scope) : ∀ x c, (clOf scope.names X.env).lookup x = some c → c < s.heap.objs.size + 1 := fun x c e => by
 obtain ⟨v, o, ho, _⟩ := I.cell x c (comp_cl I S x c e)
 exact Nat.lt_succ_of_lt (Heap.lt_size ho)
theorem comp_ok {h : Nat} {N' : List Str} {scope : Scope} {fp : List Addr} (I : Inv X pins σ H s) (S : ScopeOk h N' X.N scope X.env.scope) (hf : ∀ b ∈ fp, FpOk X pins H b) (hlt : ∀ b ∈ fp, b < s.heap.objs.size) :
   (compCx X scope N' s.heap.objs.size s H fp).Ok := by
 have cl := comp_cells I S
 refine ⟨I.ok.mod, ?_, I.ok.glob, I.ok.blt, Nat.le_refl _, cf_inj _ _ _ (comp_below I S) fun x y c e1 e2 => I.ok.inj x y c (comp_cl I S x c e1) (comp_cl I S y c e2), fun x hx => ?_, fun x c z e => ?_, I.ok.hd, I.ok.frames, .inl rfl, fun b hb => ⟨Nat.ne_of_lt (hlt b hb), fun x c e => (cl x c e).elim (fun z => (hf b hb).2.2.2.2.1 x c z) fun z w => Nat.lt_irrefl _ (Nat.lt_of_lt_of_le (hlt b hb) (Nat.le_of_succ_le (w ▸ z.2)))⟩, fun b o e => I.bs b o e, Nat.le_trans I.ok.bsz I.sz, fun b o e hb => ?_, fun b hb z => ?_, I.stack, I.stkFree⟩
 · exact S.kind
 · have hx' : (relabel scope X.env).names.lookup x = some .cell ∨ (relabel scope X.env).names.lookup x = some .free := hx
   have e := lookup_relabel (env := X.env) (x := x) scope.names
   have hl : scope.names.lookup x = some .free ∨ scope.names.lookup x = some .cell := by
     cases q : scope.names.lookup x with
     | none => rw [q] at e; rcases hx' with z | z <;> (have z' := e.symm.trans z; cases z')
     | some k =>
       rw [q, Option.map_some] at e
       by_cases hk : k = .free
       · rw [hk]; exact .inl rfl
       · have hc : ¬ (k == NameKind.free && X.env.scope.kind == .function && X.env.kindOf x == some .cell) = true := by
           have : (k == NameKind.free) = false := by simpa using hk
           rw [this]; simp
         rw [if_neg hc] at e
         rcases hx' with z | z
         · have z' := e.symm.trans z
           cases z'
           exact .inr rfl
         · have z' := e.symm.trans z
           cases z'
           exact .inl rfl
   rcases hl with hl | hl
   · have hm := PySem.mem_of_lookup hl
     obtain ⟨c, hc⟩ := I.ok.has x (S.free _ hm rfl).2
     exact ⟨c, (cf_has _ _ _ (comp_nf S hm)).trans (cl_has hm hc)⟩
   · exact Option.isSome_iff_exists.mp (PySem.W.cellsFrom_some _ _ _ (.inl hl))
 · have z : (scope.names.lookup x == some NameKind.cell) = true := z
   have z : scope.names.lookup x = some .cell := by simpa using z
   rcases cf_ok scope.names (s.heap.push { cls := .type "dict", data := .dict #[] }) (clOf scope.names X.env) (x := x) (c := c) (by rw [Heap.size_push]; exact e) with w | ⟨_, w, _⟩
   · exact absurd (PySem.mem_of_lookup z) (comp_nf S (cl_of w).1)
   · rw [Heap.size_push] at w
     exact Nat.le_of_succ_le w
 · rcases (hf b hb).2.2.2.1 with z | z
   · exact I.ok.noex b o e z
   · exact absurd (Nat.lt_of_lt_of_le (Heap.lt_size (I.ok.bs b o e).1) z) (Nat.lt_irrefl _)
 · obtain ⟨_, f1, f2, _⟩ := hf b hb
   rcases List.mem_cons.mp (I.stkSub b z) with q | q
   · exact f1 q
   · exact f2 q
theorem comp_start {h : Nat} {N' : List Str} {scope : Scope} {fp : List Addr} {h' : Heap} {tk : Nat} (I : Inv X pins σ H s) (S : ScopeOk h N' X.N scope X.env.scope) (hf : ∀ b ∈ fp, FpOk X pins H b) (hlt : ∀ b ∈ fp, b < s.heap.objs.size)
   (hn : h'.Ns s.heap.objs.size fun _ => none) (kp : ∀ b o, s.heap.get? b = some o → h'.get? b = some o) (hcs : ∀ x c, (cellsFrom (s.heap.objs.size + 1) scope.names (clOf scope.names X.env)).lookup x = some c → (clOf scope.names X.env).lookup x = some c ∨ ((x, NameKind.cell) ∈ scope.names ∧ s.heap.objs.size + 1 ≤ c ∧ h'.IsCell c none)) :
   Inv (compCx X scope N' s.heap.objs.size s H fp) [] (List.replicate h none ++ σ) H { s with heap := h', toks := tk } := by
 have ok := comp_ok I S hf hlt
 have cl := comp_cl I S
 refine ⟨ok, rfl, I.bare, Un.kept kp, ⟨_, hn, fun i x v e1 e2 e3 => ?_⟩, fun x c e => ?_, I.hok.fresh (Nat.le_refl _), fun x c e => (hcs x c e).elim (fun z => I.freeC x c (cl x c z)) fun z => I.hok.fresh (Nat.le_of_succ_le z.2.1), fun p hp => absurd (show p ∈ ([] : List (Addr × Obj)) from hp) (by simp), I.hok.kept kp, ?_⟩
 · have e1 : N'[i]? = some x := e1
   by_cases hi : i < h
   · rw [List.getElem?_append_left (by simpa using hi), List.getElem?_replicate, if_pos hi] at e2
     cases e2
   · obtain ⟨j, rfl⟩ : ∃ j, i = h + j := ⟨i - h, by omega⟩
     rw [List.getElem?_append_right (by simp), List.length_replicate, Nat.add_sub_cancel_left] at e2
     have e3 : Vis (relabel scope X.env) x := e3
     have er := lookup_relabel (env := X.env) (x := x) scope.names
     have hl : ∃ k, scope.names.lookup x = some k ∧ (k = .local ∨ k = .cell ∨ k = .free) ∧ (relabel scope X.env).names.lookup x = some (if (k == NameKind.free && X.env.scope.kind == .function && X.env.kindOf x == some .cell) then NameKind.cell else k) := by
       cases q : scope.names.lookup x with
       | none => rw [q] at er; rcases e3 with z | z | z <;> (have z' := er.symm.trans z; cases z')
       | some k =>
         rw [q, Option.map_some] at er
         refine ⟨k, rfl, ?_, er⟩
         by_cases hc : (k == NameKind.free && X.env.scope.kind == .function && X.env.kindOf x == some .cell) = true
         · simp only [Bool.and_eq_true, beq_iff_eq] at hc
           exact .inr (.inr hc.1.1)
         · rw [if_neg hc] at er
           rcases e3 with z | z | z <;> (have z' := er.symm.trans z; cases z'; simp)
     obtain ⟨k, hk, hkk, hre⟩ := hl
     obtain ⟨hN, rfl⟩ := S.out j x k e1 hk hkk
     have hm := PySem.mem_of_lookup hk
     have hfr := (S.free _ hm rfl).2
     obtain ⟨m, hnm, hlk⟩ := I.loc
     obtain ⟨u, ru, lk⟩ := hlk j x v hN e2 (by rcases hfr with z | z; exact .inr (.inl z); exact .inr (.inr z))
     refine ⟨u, ru, ?_⟩
     rcases lk with ⟨hloc, _⟩ | ⟨hkd, c, hc, hcell⟩
     · have hloc : X.env.scope.names.lookup x = some .local := hloc
       rcases hfr with z | z <;> (rw [hloc] at z; cases z)
     · refine .inr ⟨?_, c, (cf_has _ _ _ (comp_nf S hm)).trans (cl_has hm hc), ?_⟩
       · show (relabel scope X.env).names.lookup x = some .cell ∨ (relabel scope X.env).names.lookup x = some .free
         rw [hre]
         split
         · exact .inl rfl
         · exact .inr rfl
       · obtain ⟨o, ho, hd⟩ := hcell
         exact ⟨o, kp c o ho, hd⟩
 · rcases hcs x c e with z | z
   · obtain ⟨v, o, ho, hd⟩ := I.cell x c (cl x c z)
     exact ⟨v, o, kp c o ho, hd⟩
   · exact ⟨_, z.2.2⟩
 · show (List.replicate h none ++ σ).length = N'.length
   rw [List.length_append, List.length_replicate, S.len, I.len]
theorem comp_end {h : Nat} {N' : List Str} {scope : Scope} {fp : List Addr} {pins' : List (Addr × Obj)} {σ' : St} {H' : Hp} {s' : Shared} {h' : Heap} (I : Inv X pins σ H s) (S : ScopeOk h N' X.N scope X.env.scope) (hf : ∀ b ∈ fp, FpOk X pins H b)
   (J : Inv (compCx X scope N' s.heap.objs.size s H fp) pins' σ' H' s') (hs : Heap.SameBut s.heap.objs.size s'.heap h') : Inv X pins σ H' { s' with heap := h' } := by
 have ne : ∀ b o, s.heap.get? b = some o → b ≠ s.heap.objs.size := fun b o e => Nat.ne_of_lt (Heap.lt_size e)
 have u : Un (frs X.stack) fp H H' s.heap s'.heap := J.base
 have hC : H' s.heap.objs.size = none := J.free
 obtain ⟨m0, ⟨oC, _, _, hoC, _⟩, _⟩ := id J.loc
 refine I.call' (s' := { s' with heap := h' }) (ch := fp) J.os ⟨fun b o e n hb hx => (hs.2 b (ne b o e)).trans (u.keep b o e n hb hx), fun b o e n hb hx => ?_, u.free, fun b o e hx => ?_, u.tups, u.frzs, u.tbls⟩ (fun b ob e => ?_) J.bare fun b hb => ?_
 · obtain ⟨sl, z⟩ := u.slot b o e n hb hx
   exact ⟨sl, (hs.2 b (ne b o e)).trans z⟩
 · obtain ⟨o', z⟩ := u.there b o e hx
   exact ⟨o', (hs.2 b (ne b o e)).trans z⟩
 · refine (J.hok b ob e).stay (fun c w' hc q => (hs.2 c ?_).trans q) (fun _ q => q) fun _ _ q => q
   rintro rfl
   rcases hc with z | z
   · rw [← z, hC] at e; cases e
   · rw [hC] at z; cases z
 · obtain ⟨_, f1, _, f3, f4, f5⟩ := hf b hb
   exact ⟨f3, f1, f4, f5⟩
end
theorem pe_comp {X : Cx} {elt tg iter : Expr} {ifs : List Expr} {scope : Scope} {pos : Pos} {wi : TI} {g : TG} {tf : TT} {te : TE} {N' : List Str} (h : Nat) (S : ScopeOk h N' X.N scope X.env.scope) (hc : X.calm = true) (hi : PI X tg iter wi)
   (hg : ∀ C s H ex, PG (compCx X scope N' C s H ex) tg g) (ho : OwnG h g) (ht : ∀ C s H ex, PF (compCx X scope N' C s H ex) ifs tf) (he : ∀ C s H ex, PE (compCx X scope N' C s H ex) elt te)
   (hs : ∀ x, foldedSetIterable iter X.env x = pure x := by intro _; rfl) :
   PE X (.ListComp elt [⟨tg, iter, ifs, 0⟩] scope pos) (tComp h wi g tf te) := by
 intro pins s σ H Q I hq
 rw [eval_ListComp]
 refine wpAny_comprehension_free (use := none) rfl hs (closure_ok (env := X.env) fun p hp hk => I.ok.has p.1 (S.free p hp hk).2) S.kind S.loc ?_
 refine thn (hi pins s σ H _ I hq) fun v s1 h1 => thn h1 fun itv s2 h2 => ?_
 obtain ⟨it, fp, tn, J, H2, rfl, I2, T, st2, f2, hq⟩ := h2
 refine wpAny_newObj_type ?_ (by show 0 ≤ sizeLine; exact Nat.zero_le _)
 have hD : H2 s2.heap.objs.size = none := I2.hok.fresh (Nat.le_refl _)
 have I3 : Inv X pins σ (upd H2 s2.heap.objs.size (.lst [])) { s2 with heap := s2.heap.push { cls := .type "list", data := .seq ([] : List Value).toArray }, toks := s2.toks } := I2.lnew (t' := s2.toks) .nil (Nat.zero_le _)
 generalize hs3 : ({ s2 with heap := s2.heap.push { cls := .type "list", data := .seq ([] : List Value).toArray }, toks := s2.toks } : Shared) = s3 at I3
 have hs3' : ({ s2 with heap := s2.heap.push { cls := .type "list", data := .seq ([] : List Value).toArray } } : Shared) = s3 := hs3
 obtain ⟨W, ⟨m0, w0⟩, turn⟩ := hq s2.heap.objs.size hD
 have olt : ∀ b ∈ fp, b < s2.heap.objs.size := fun b hb => by
   obtain ⟨o, e, _⟩ := T.obj _ _ st2 b hb
   exact Heap.lt_size e
 have hsz : s3.heap.objs.size = s2.heap.objs.size + 1 := by rw [← hs3]; exact Heap.size_push ..
 have k23 : ∀ b o, s2.heap.get? b = some o → s3.heap.get? b = some o := fun b o e => by rw [← hs3]; exact Heap.get?_push_of_some _ e
 have f3 : ∀ b ∈ fp, FpOk X pins (upd H2 s2.heap.objs.size (.lst [])) b := fun b hb => ⟨by rw [upd_ne (Nat.ne_of_lt (olt b hb))]; exact (f2 b hb).1, (f2 b hb).2⟩
 have lt3 : ∀ b ∈ fp, b < s3.heap.objs.size := fun b hb => by rw [hsz]; exact Nat.lt_succ_of_lt (olt b hb)
 refine new_env_cl fun h4 hn4 k34 cs4 => ?_
 have I4 := comp_start (h' := h4) (tk := s3.toks) I3 S f3 lt3 hn4 k34 cs4
 have st4 : tn 0 h4 := T.keep _ _ _ st2 fun b hb o e => k34 b o (k23 b o e)
 generalize hX : compCx X scope N' s3.heap.objs.size s3 (upd H2 s2.heap.objs.size (.lst [])) fp = X' at I4
 have hA : X'.A = X.A := by rw [← hX]; rfl
 -- the iterator's objects, in the block
 have fpX : ∀ {H' : Hp} {pl : List (Addr × Obj)}, (∀ b ∈ fp, H' b = none) → pl = [] → ∀ b ∈ fp, FpOk X' pl H' b := fun {H' pl} hn0 hpl b hb => by
   subst hpl
   obtain ⟨q0, q1, q2, q3, q4, q5⟩ := f3 b hb
   subst hX
   refine ⟨hn0 b hb, Nat.ne_of_lt (lt3 b hb), fun z => ?_, .inl hb, fun x c e => (comp_cells I3 S x c e).elim (q4 x c) fun z w => Nat.lt_irrefl _ (Nat.lt_of_lt_of_le (lt3 b hb) (Nat.le_of_succ_le (w ▸ z.2))), fun p hp => absurd (show p ∈ ([] : List (Addr × Obj)) from hp) (by simp)⟩
   rcases List.mem_cons.mp (I3.stkSub b z) with z | z
   · exact q1 z
   · exact q2 z
 have hcX : X'.calm = true := by rw [← hX]; exact hc
 have hR : ∀ s' : Shared, (∃ (m : Nat) (i : Nat) (ys : List V) (H' : Hp), Inv X' [] (List.replicate h none ++ σ) H' s' ∧ tn i s'.heap ∧ (∀ b ∈ fp, H' b = none) ∧ W i m ys H') → True := fun _ _ => trivial
 have loop : ∀ (sL : Shared), (Inv X' [] (List.replicate h none ++ σ) (upd H2 s2.heap.objs.size (.lst [])) sL) → tn 0 sL.heap →
     codeAny (model X.prog X.w) X.A (.compLoop (.ListComp elt [⟨tg, iter, ifs, 0⟩] scope pos) 0 (.ref it) (.ref s2.heap.objs.size) X'.env)
       (compPost (model X.prog X.w) X.A X.xe none (EP X pins σ Q) (.ref s2.heap.objs.size) s3.heap.objs.size) sL := by
   intro sL IL stL
   refine compLoop_go (fun n s' => ∃ i ys H', Inv X' [] (List.replicate h none ++ σ) H' s' ∧ tn i s'.heap ∧ (∀ b ∈ fp, H' b = none) ∧ W i n ys H') ?_ m0 ⟨0, [], _, IL, stL, fun b hb => (f3 b hb).1, w0⟩
   rintro n s5 ⟨i, ys, H5, I5, st5, fr5, w5⟩
   obtain ⟨hDy, hh⟩ := turn i n ys H5 w5
   have eP : X'.prog = X.prog := by rw [← hX]; rfl
   have eW : X'.w = X.w := by rw [← hX]; rfl
   have eK : X'.K = X.K := by rw [← hX]; rfl
   have eE : X'.xe = fun _ _ => False := by rw [← hX]; rfl
   rcases hh with ⟨stop, qn⟩ | ⟨go, step⟩
   · have := T.done X' eP eW eK hcX i [] s5 _ H5 (fun _ _ => False) I5 (fpX fr5 rfl) st5 stop
     rw [hA] at this
     refine thn this fun r s6 ⟨hr, I6⟩ => ?_
     subst hr
     obtain ⟨m6, hm6, _⟩ := id I6.loc
     refine ⟨m6, ?_, fun h7 hs7 => ?_⟩
     · rw [← hX] at hm6; exact hm6
     · rw [← hX] at I6
       exact ⟨.ref s2.heap.objs.size, H5, comp_end I3 S f3 I6 hs7, rfl, qn⟩
   · have := T.item X' eP eW eK hcX i [] s5 _ H5 (fun _ _ => False) I5 (fpX fr5 rfl) st5 go
     rw [hA] at this
     refine thn this fun r s6 ⟨u, hr, h6⟩ => ?_
     subst hr
     refine thn h6 fun _ s7 ⟨x, H7, I7, r7, y7, st7, fr7⟩ => ?_
     have I7' := I7.pinned (fpX fr7 rfl) (T.obj _ _ st7)
     have back : ∀ {σ' : St} {H' : Hp} {s' : Shared}, Inv X' ([] ++ pinsAt fp s7.heap) σ' H' s' → σ'.length = (List.replicate h none ++ σ : St).length → σ'.drop h = (List.replicate h none ++ σ : St).drop h →
         Inv X' [] (List.replicate h none ++ σ) H' s' ∧ tn (i + 1) s'.heap ∧ ∀ b ∈ fp, H' b = none := by
       intro σ' H' s' I' hl hd
       refine ⟨I'.unpinned.weak hl.symm fun j v e => ?_, T.keep _ _ _ st7 fun b hb o e => ?_, fun b hb => ?_⟩
       · by_cases hj : j < h
         · rw [List.getElem?_append_left (by simpa using hj), List.getElem?_replicate, if_pos hj] at e
           cases e
         · have e1 : (σ'.drop h)[j - h]? = σ'[j]? := by rw [List.getElem?_drop]; congr 1; omega
           have e2 : ((List.replicate h none ++ σ : St).drop h)[j - h]? = (List.replicate h none ++ σ : St)[j]? := by rw [List.getElem?_drop]; congr 1; omega
           rw [← e1, hd, e2]; exact e
       · exact (I'.pin (b, o) (List.mem_append_right _ (List.mem_append_right _ (mem_pinsAt hb e)))).1
       · obtain ⟨o, e, _⟩ := T.obj _ _ st7 b hb
         exact (I'.pin (b, o) (List.mem_append_right _ (List.mem_append_right _ (mem_pinsAt hb e)))).2.1
     have hg' := hg s3.heap.objs.size s3 (upd H2 s2.heap.objs.size (.lst [])) fp
     have ht' := ht s3.heap.objs.size s3 (upd H2 s2.heap.objs.size (.lst [])) fp
     have he' := he s3.heap.objs.size s3 (upd H2 s2.heap.objs.size (.lst [])) fp
     rw [hX] at hg' ht' he'
     have hl0 : h ≤ (List.replicate h none ++ σ : St).length := by simp
     have a1 := hg' _ s7 _ H7 x u _ I7' r7 (ho x _ H7 _ hl0 (step x H7 y7))
     rw [hA, eP, eW, eE] at a1
     refine thn a1 fun _ s8 ⟨σ8, H8, I8, q8, l8, d8⟩ => ?_
     have a2 := ht' _ s8 σ8 H8 _ I8 q8
     rw [hA, eP, eW, eE] at a2
     refine thn a2 fun c s9 ⟨H9, I9, q9⟩ => ?_
     cases c with
     | false =>
       obtain ⟨m', hm', w'⟩ := q9
       obtain ⟨b1, b2, b3⟩ := back I9 l8 d8
       exact ⟨m', hm', i + 1, ys, H9, b1, b2, b3, w'⟩
     | true =>
       have a3 := he' _ s9 σ8 H9 _ I9 q9
       rw [hA, eP, eW, eE] at a3
       refine thn a3 fun yv s10 ⟨y, H10, I10, r10, hD10, hz10, m', hm', w'⟩ => ?_
       have a4 := mt_append (X := X') _ s10 σ8 H10 (.ref s2.heap.objs.size) [y] (.ref s2.heap.objs.size) [yv] (fun _ Hz => Hz = upd H10 s2.heap.objs.size (.lst (ys ++ [y]))) I10 rfl (.cons r10 .nil) ⟨_, ys, y, rfl, rfl, hD10, hz10, rfl⟩
       rw [hA, eP, eW, eE] at a4
       refine thn a4 fun _ s11 ⟨_, H11, I11, _, e11⟩ => ?_
       subst e11
       obtain ⟨b1, b2, b3⟩ := back I11 l8 d8
       exact ⟨m', hm', i + 1, ys ++ [y], _, b1, b2, b3, w'⟩
 have fin := codeAny_compStart_list (prog := X.prog) (w := X.w) (A := X.A) (R := compPost (model X.prog X.w) X.A X.xe none (EP X pins σ Q) (.ref s2.heap.objs.size) s3.heap.objs.size) (elt := elt) (target := tg) (iter := iter) (ifs := ifs) (rest := []) (scope := scope) (pos := pos) (it := .ref it) (acc := .ref s2.heap.objs.size) (env := X'.env)
   (loop _ I4 st4) (T.self _ 0 _ _ _ st4 (loop _ I4 st4))
 have hE : X'.env = compEnvC scope (cellsFrom (s3.heap.objs.size + 1) scope.names (clOf scope.names X.env)) s3.heap.objs.size X.env := by rw [← hX]; rfl
 rw [hE] at fin
 exact fin
theorem ps_setComp {X : Cx} {elt tg iter : Expr} {ifs : List Expr} {scope : Scope} {pos py spos : Pos} {wi : TI} {g : TG} {tf : TT} {te : TE} {N' : List Str} {n0 : Nat} {x0 : Str} (hN0 : X.N.Nodup) (hi0 : X.N[n0]? = some x0) (hx0 : X.env.scope.names.lookup x0 = some .local) (hsw : swapsWith (.ListComp elt [⟨tg, iter, ifs, 0⟩] scope pos) (some (.Name x0 py)) spos.line X.env = pure true) (h : Nat) (S : ScopeOk h N' X.N scope X.env.scope) (hc : X.calm = true) (hi : PI X tg iter wi)
   (hg : ∀ C s H ex, PG (compCx X scope N' C s H ex) tg g) (ho : OwnG h g) (ht : ∀ C s H ex, PF (compCx X scope N' C s H ex) ifs tf) (he : ∀ C s H ex, PE (compCx X scope N' C s H ex) elt te)
   (hs : ∀ x, foldedSetIterable iter X.env x = pure x := by intro _; rfl) :
   PS X (.Assign [.Name x0 py] (.ListComp elt [⟨tg, iter, ifs, 0⟩] scope pos) spos) (tAsg (tComp h wi g tf te) (gName n0)) := by
 intro pins s σ H DD I hq
 rw [exec_Assign_Name_used _ _ _ _ hsw]
 refine wpAny_bind (wpAny_standAt (wpAny_bind ?_))
 show wpAny _ X.A (do let _ ← comprehension (.ListComp elt [⟨tg, iter, ifs, 0⟩] scope pos) scope X.env _ (newList []) false (eval iter X.env) (some (assign (.Name x0 py) X.env))) _ _ s
 refine wpAny_bind (wpAny_mono (wpAny_comprehension_free (use := some (assign (.Name x0 py) X.env)) (Q := fun _ s' => SP X pins DD .next s') rfl hs (closure_ok (env := X.env) fun p hp hk => I.ok.has p.1 (S.free p hp hk).2) S.kind S.loc ?_) (fun _ s' hq => wpAny_pure (wpAny_pure hq)) fun _ _ e => e)
 refine thn (hi pins s σ H _ I hq) fun v s1 h1 => thn h1 fun itv s2 h2 => ?_
 obtain ⟨it, fp, tn, J, H2, rfl, I2, T, st2, f2, hq⟩ := h2
 refine wpAny_newObj_type ?_ (by show 0 ≤ sizeLine; exact Nat.zero_le _)
 have hD : H2 s2.heap.objs.size = none := I2.hok.fresh (Nat.le_refl _)
 have I3 : Inv X pins σ (upd H2 s2.heap.objs.size (.lst [])) { s2 with heap := s2.heap.push { cls := .type "list", data := .seq ([] : List Value).toArray }, toks := s2.toks } := I2.lnew (t' := s2.toks) .nil (Nat.zero_le _)
 generalize hs3 : ({ s2 with heap := s2.heap.push { cls := .type "list", data := .seq ([] : List Value).toArray }, toks := s2.toks } : Shared) = s3 at I3
 have hs3' : ({ s2 with heap := s2.heap.push { cls := .type "list", data := .seq ([] : List Value).toArray } } : Shared) = s3 := hs3
 obtain ⟨W, ⟨m0, w0⟩, turn⟩ := hq s2.heap.objs.size hD
 have olt : ∀ b ∈ fp, b < s2.heap.objs.size := fun b hb => by
   obtain ⟨o, e, _⟩ := T.obj _ _ st2 b hb
   exact Heap.lt_size e
 have hsz : s3.heap.objs.size = s2.heap.objs.size + 1 := by rw [← hs3]; exact Heap.size_push ..
 have k23 : ∀ b o, s2.heap.get? b = some o → s3.heap.get? b = some o := fun b o e => by rw [← hs3]; exact Heap.get?_push_of_some _ e
 have f3 : ∀ b ∈ fp, FpOk X pins (upd H2 s2.heap.objs.size (.lst [])) b := fun b hb => ⟨by rw [upd_ne (Nat.ne_of_lt (olt b hb))]; exact (f2 b hb).1, (f2 b hb).2⟩
 have lt3 : ∀ b ∈ fp, b < s3.heap.objs.size := fun b hb => by rw [hsz]; exact Nat.lt_succ_of_lt (olt b hb)
 refine new_env_cl fun h4 hn4 k34 cs4 => ?_
 have I4 := comp_start (h' := h4) (tk := s3.toks) I3 S f3 lt3 hn4 k34 cs4
 have st4 : tn 0 h4 := T.keep _ _ _ st2 fun b hb o e => k34 b o (k23 b o e)
 generalize hX : compCx X scope N' s3.heap.objs.size s3 (upd H2 s2.heap.objs.size (.lst [])) fp = X' at I4
 have hA : X'.A = X.A := by rw [← hX]; rfl
 -- the iterator's objects, in the block
 have fpX : ∀ {H' : Hp} {pl : List (Addr × Obj)}, (∀ b ∈ fp, H' b = none) → pl = [] → ∀ b ∈ fp, FpOk X' pl H' b := fun {H' pl} hn0 hpl b hb => by
   subst hpl
   obtain ⟨q0, q1, q2, q3, q4, q5⟩ := f3 b hb
   subst hX
   refine ⟨hn0 b hb, Nat.ne_of_lt (lt3 b hb), fun z => ?_, .inl hb, fun x c e => (comp_cells I3 S x c e).elim (q4 x c) fun z w => Nat.lt_irrefl _ (Nat.lt_of_lt_of_le (lt3 b hb) (Nat.le_of_succ_le (w ▸ z.2))), fun p hp => absurd (show p ∈ ([] : List (Addr × Obj)) from hp) (by simp)⟩
   rcases List.mem_cons.mp (I3.stkSub b z) with z | z
   · exact q1 z
   · exact q2 z
 have hcX : X'.calm = true := by rw [← hX]; exact hc
 have hR : ∀ s' : Shared, (∃ (m : Nat) (i : Nat) (ys : List V) (H' : Hp), Inv X' [] (List.replicate h none ++ σ) H' s' ∧ tn i s'.heap ∧ (∀ b ∈ fp, H' b = none) ∧ W i m ys H') → True := fun _ _ => trivial
 have loop : ∀ (sL : Shared), (Inv X' [] (List.replicate h none ++ σ) (upd H2 s2.heap.objs.size (.lst [])) sL) → tn 0 sL.heap →
     codeAny (model X.prog X.w) X.A (.compLoop (.ListComp elt [⟨tg, iter, ifs, 0⟩] scope pos) 0 (.ref it) (.ref s2.heap.objs.size) X'.env)
       (compPost (model X.prog X.w) X.A X.xe (some (assign (.Name x0 py) X.env)) (fun _ s' => SP X pins DD .next s') (.ref s2.heap.objs.size) s3.heap.objs.size) sL := by
   intro sL IL stL
   refine compLoop_go (fun n s' => ∃ i ys H', Inv X' [] (List.replicate h none ++ σ) H' s' ∧ tn i s'.heap ∧ (∀ b ∈ fp, H' b = none) ∧ W i n ys H') ?_ m0 ⟨0, [], _, IL, stL, fun b hb => (f3 b hb).1, w0⟩
   rintro n s5 ⟨i, ys, H5, I5, st5, fr5, w5⟩
   obtain ⟨hDy, hh⟩ := turn i n ys H5 w5
   have eP : X'.prog = X.prog := by rw [← hX]; rfl
   have eW : X'.w = X.w := by rw [← hX]; rfl
   have eK : X'.K = X.K := by rw [← hX]; rfl
   have eE : X'.xe = fun _ _ => False := by rw [← hX]; rfl
   rcases hh with ⟨stop, qn⟩ | ⟨go, step⟩
   · have := T.done X' eP eW eK hcX i [] s5 _ H5 (fun _ _ => False) I5 (fpX fr5 rfl) st5 stop
     rw [hA] at this
     refine thn this fun r s6 ⟨hr, I6⟩ => ?_
     subst hr
     obtain ⟨m6, hm6, _⟩ := id I6.loc
     have hC6 : H5 s3.heap.objs.size = none := by rw [← hX] at I6; exact I6.free
     have hm6 : s6.heap.Ns s3.heap.objs.size m6 := by rw [← hX] at hm6; exact hm6
     have J6 : Inv X pins σ H5 s6 := by rw [← hX] at I6; exact comp_end I3 S f3 I6 (Heap.SameBut.refl ..)
     have neL : s3.heap.objs.size ≠ X.env.locals := Nat.ne_of_gt I3.lt
     have neC : ∀ x c, X.env.cells.lookup x = some c → c ≠ s3.heap.objs.size := fun x c e => by
       obtain ⟨v, z⟩ := I3.cell x c e
       exact Nat.ne_of_lt z.lt
     show wpAny (model X.prog X.w) X.A (assign (.Name x0 py) X.env (.ref s2.heap.objs.size)) _ _ s6
     refine wpAny_assign_Name (store_ok2 (v := .ref s2.heap.objs.size) J6 hN0 hi0 (.inl hx0) rfl (fun s7 I7 ⟨a, hsb, ha⟩ => ?_) (.inr hx0))
     have hac : s3.heap.objs.size ≠ a := by
       rcases ha with rfl | ha
       · exact neL
       · exact Ne.symm (neC _ _ ha)
     refine ⟨m6, hm6.sameBut hsb hac, fun h8 hs8 => ⟨_, H5, I7.turned (t' := s7.toks) (it := s3.heap.objs.size) (fun b o hb e => (hs8.2 b hb).trans e) hC6 neL (.inr I3.sz) neC (fun p hp => ?_), qn⟩⟩
     exact Nat.ne_of_lt (Heap.lt_size (I3.pin p hp).1)
   · have := T.item X' eP eW eK hcX i [] s5 _ H5 (fun _ _ => False) I5 (fpX fr5 rfl) st5 go
     rw [hA] at this
     refine thn this fun r s6 ⟨u, hr, h6⟩ => ?_
     subst hr
     refine thn h6 fun _ s7 ⟨x, H7, I7, r7, y7, st7, fr7⟩ => ?_
     have I7' := I7.pinned (fpX fr7 rfl) (T.obj _ _ st7)
     have back : ∀ {σ' : St} {H' : Hp} {s' : Shared}, Inv X' ([] ++ pinsAt fp s7.heap) σ' H' s' → σ'.length = (List.replicate h none ++ σ : St).length → σ'.drop h = (List.replicate h none ++ σ : St).drop h →
         Inv X' [] (List.replicate h none ++ σ) H' s' ∧ tn (i + 1) s'.heap ∧ ∀ b ∈ fp, H' b = none := by
       intro σ' H' s' I' hl hd
       refine ⟨I'.unpinned.weak hl.symm fun j v e => ?_, T.keep _ _ _ st7 fun b hb o e => ?_, fun b hb => ?_⟩
       · by_cases hj : j < h
         · rw [List.getElem?_append_left (by simpa using hj), List.getElem?_replicate, if_pos hj] at e
           cases e
         · have e1 : (σ'.drop h)[j - h]? = σ'[j]? := by rw [List.getElem?_drop]; congr 1; omega
           have e2 : ((List.replicate h none ++ σ : St).drop h)[j - h]? = (List.replicate h none ++ σ : St)[j]? := by rw [List.getElem?_drop]; congr 1; omega
           rw [← e1, hd, e2]; exact e
       · exact (I'.pin (b, o) (List.mem_append_right _ (List.mem_append_right _ (mem_pinsAt hb e)))).1
       · obtain ⟨o, e, _⟩ := T.obj _ _ st7 b hb
         exact (I'.pin (b, o) (List.mem_append_right _ (List.mem_append_right _ (mem_pinsAt hb e)))).2.1
     have hg' := hg s3.heap.objs.size s3 (upd H2 s2.heap.objs.size (.lst [])) fp
     have ht' := ht s3.heap.objs.size s3 (upd H2 s2.heap.objs.size (.lst [])) fp
     have he' := he s3.heap.objs.size s3 (upd H2 s2.heap.objs.size (.lst [])) fp
     rw [hX] at hg' ht' he'
     have hl0 : h ≤ (List.replicate h none ++ σ : St).length := by simp
     have a1 := hg' _ s7 _ H7 x u _ I7' r7 (ho x _ H7 _ hl0 (step x H7 y7))
     rw [hA, eP, eW, eE] at a1
     refine thn a1 fun _ s8 ⟨σ8, H8, I8, q8, l8, d8⟩ => ?_
     have a2 := ht' _ s8 σ8 H8 _ I8 q8
     rw [hA, eP, eW, eE] at a2
     refine thn a2 fun c s9 ⟨H9, I9, q9⟩ => ?_
     cases c with
     | false =>
       obtain ⟨m', hm', w'⟩ := q9
       obtain ⟨b1, b2, b3⟩ := back I9 l8 d8
       exact ⟨m', hm', i + 1, ys, H9, b1, b2, b3, w'⟩
     | true =>
       have a3 := he' _ s9 σ8 H9 _ I9 q9
       rw [hA, eP, eW, eE] at a3
       refine thn a3 fun yv s10 ⟨y, H10, I10, r10, hD10, hz10, m', hm', w'⟩ => ?_
       have a4 := mt_append (X := X') _ s10 σ8 H10 (.ref s2.heap.objs.size) [y] (.ref s2.heap.objs.size) [yv] (fun _ Hz => Hz = upd H10 s2.heap.objs.size (.lst (ys ++ [y]))) I10 rfl (.cons r10 .nil) ⟨_, ys, y, rfl, rfl, hD10, hz10, rfl⟩
       rw [hA, eP, eW, eE] at a4
       refine thn a4 fun _ s11 ⟨_, H11, I11, _, e11⟩ => ?_
       subst e11
       obtain ⟨b1, b2, b3⟩ := back I11 l8 d8
       exact ⟨m', hm', i + 1, ys ++ [y], _, b1, b2, b3, w'⟩
 have fin := codeAny_compStart_list (prog := X.prog) (w := X.w) (A := X.A) (R := compPost (model X.prog X.w) X.A X.xe (some (assign (.Name x0 py) X.env)) (fun _ s' => SP X pins DD .next s') (.ref s2.heap.objs.size) s3.heap.objs.size) (elt := elt) (target := tg) (iter := iter) (ifs := ifs) (rest := []) (scope := scope) (pos := pos) (it := .ref it) (acc := .ref s2.heap.objs.size) (env := X'.env)
   (loop _ I4 st4) (T.self _ 0 _ _ _ st4 (loop _ I4 st4))
 have hE : X'.env = compEnvC scope (cellsFrom (s3.heap.objs.size + 1) scope.names (clOf scope.names X.env)) s3.heap.objs.size X.env := by rw [← hX]; rfl
 rw [hE] at fin
 exact fin
end L3
namespace L3
open PySem PySem.Spec PySem.Calls
open PyProof.Rows hiding St
open L2
section
variable {X : Cx} {pins : List (Addr × Obj)} {σ : St} {H : Hp} {s : Shared} {a : Addr}
def XR (a C dx : Addr) : HO := .ext fun h => ∃ o vs, h.get? a = some o ∧ o.cls = .ref C ∧ o.dict = some dx ∧ o.data = .fields vs
end
end L3
namespace L3
open PySem PySem.Spec
open PyProof.Rows hiding St
open L2
mutual
inductive Is (K : PySem.W.Frag) (F : Addr → Prop) (H : Hp) : V → PyData → Prop
 | none : Is K F H .non .none
 | bool (b) : Is K F H (.bl b) (.bool b)
 | int (i) : Is K F H (.int i) (.int i)
 | str (x) : Is K F H (.str x) (.str x)
 | list {a xs ds} : F a → H a = some (.lst xs) → IsAll K F H xs ds → Is K F H (.ref a) (.list ds)
 | tuple {a xs ds} : SqT K H a xs → IsAll K F H xs ds → Is K F H (.ref a) (.tuple ds)
inductive IsAll (K : PySem.W.Frag) (F : Addr → Prop) (H : Hp) : List V → List PyData → Prop
 | nil : IsAll K F H [] []
 | cons {v vs d ds} : Is K F H v d → IsAll K F H vs ds → IsAll K F H (v :: vs) (d :: ds)
end
section
variable {K : PySem.W.Frag} {F F' : Addr → Prop} {H H' : Hp}
mutual
theorem Is.to (hL : ∀ a xs, F a → H a = some (.lst xs) → F' a ∧ H' a = some (.lst xs)) (hT : ∀ a xs, SqT K H a xs → SqT K H' a xs) : ∀ {v d}, Is K F H v d → Is K F' H' v d
 | _, _, .none => .none
 | _, _, .bool b => .bool b
 | _, _, .int i => .int i
 | _, _, .str x => .str x
 | _, _, .list f q r => .list (hL _ _ f q).1 (hL _ _ f q).2 (IsAll.to hL hT r)
 | _, _, .tuple q r => .tuple (hT _ _ q) (IsAll.to hL hT r)
theorem IsAll.to (hL : ∀ a xs, F a → H a = some (.lst xs) → F' a ∧ H' a = some (.lst xs)) (hT : ∀ a xs, SqT K H a xs → SqT K H' a xs) : ∀ {vs ds}, IsAll K F H vs ds → IsAll K F' H' vs ds
 | _, _, .nil => .nil
 | _, _, .cons r t => .cons (Is.to hL hT r) (IsAll.to hL hT t)
end
theorem IsAll.length : ∀ {vs ds}, IsAll K F H vs ds → vs.length = ds.length
 | _, _, .nil => rfl
 | _, _, .cons _ t => by rw [List.length_cons, List.length_cons, IsAll.length t]
theorem IsAll.get : ∀ {vs ds} {i : Nat} {d}, IsAll K F H vs ds → ds[i]? = some d → ∃ v, vs[i]? = some v ∧ Is K F H v d
 | _, _, _, _, .nil, e => by simp at e
 | _, _, 0, _, .cons r _, e => by simp at e; subst e; exact ⟨_, rfl, r⟩
 | _, _, i + 1, d, .cons _ t, e => by
   obtain ⟨v, h1, h2⟩ := IsAll.get (i := i) (d := d) t (by simpa using e)
   exact ⟨v, by simpa using h1, h2⟩
theorem IsAll.append : ∀ {vs ds ws es}, IsAll K F H vs ds → IsAll K F H ws es → IsAll K F H (vs ++ ws) (ds ++ es)
 | _, _, _, _, .nil, s => s
 | _, _, _, _, .cons r t, s => .cons r (IsAll.append t s)
theorem IsAll.snoc {vs ds v d} (h : IsAll K F H vs ds) (r : Is K F H v d) : IsAll K F H (vs ++ [v]) (ds ++ [d]) := h.append (.cons r .nil)
theorem IsAll.take : ∀ {vs ds} (n : Nat), IsAll K F H vs ds → IsAll K F H (vs.take n) (ds.take n)
 | _, _, 0, _ => .nil
 | _, _, _ + 1, .nil => .nil
 | _, _, n + 1, .cons r t => .cons r (IsAll.take n t)
theorem IsAll.drop : ∀ {vs ds} (n : Nat), IsAll K F H vs ds → IsAll K F H (vs.drop n) (ds.drop n)
 | _, _, 0, r => r
 | _, _, _ + 1, .nil => .nil
 | _, _, n + 1, .cons _ t => IsAll.drop n t
end
def SameB (M : Addr → Prop) (H H' : Hp) : Prop := ∀ a o, H a = some o → ¬ M a → H' a = some o
theorem SameB.refl (M : Addr → Prop) (H : Hp) : SameB M H H := fun _ _ h _ => h
theorem SameB.trans {M : Addr → Prop} {H H1 H2 : Hp} (a : SameB M H H1) (b : SameB M H1 H2) : SameB M H H2 := fun c o h n => b c o (a c o h n) n
theorem SameB.of {M : Addr → Prop} {H H' : Hp} (s : Same H H') : SameB M H H' := fun a o h _ => s a o h
theorem SameB.free {M : Addr → Prop} {H H' : Hp} (e : SameB M H H') {l : Addr} (hm : ¬ M l) (h : H' l = Option.none) : H l = Option.none := by
 cases q : H l with
 | none => rfl
 | some o => rw [e l o q hm] at h; cases h
def TupStay (H H' : Hp) : Prop := ∀ a u, (∃ xs, u = HO.tup xs ∨ ∃ o, u = HO.frz o (.tup xs)) → H a = some u → H' a = some u
theorem SqT.stay {K : PySem.W.Frag} {H H' : Hp} {a : Addr} {xs : List V} (e : TupStay H H') (h : SqT K H a xs) : SqT K H' a xs := by
 rcases h with (h | ⟨o, h⟩) | h
 · exact .inl (.inl (e _ _ ⟨xs, .inl rfl⟩ h))
 · exact .inl (.inr ⟨o, e _ _ ⟨xs, .inr ⟨o, rfl⟩⟩ h⟩)
 · exact .inr h
structure Ob where
 M : Addr → Prop
 P : Hp → Prop
 v : V
structure Ob.Ok (O : Ob) : Prop where
 loc : ∀ H H', (∀ a, O.M a → H' a = H a) → O.P H → O.P H'
 mutb : ∀ H a o, O.P H → H a = some o → O.M a → (∀ xs, o ≠ .tup xs) ∧ ∀ q u, o ≠ .frz q u
 here : ∀ H a, O.P H → O.M a → ∃ o, H a = some o
theorem Ob.Ok.grow {O : Ob} (ok : O.Ok) (H H' : Hp) (s : Same H H') (p : O.P H) : O.P H' := ok.loc H H' (fun a m => by
 obtain ⟨o, e⟩ := ok.here H a p m
 rw [e, s a o e]) p
def Ob.plus (O : Ob) (D : Addr) (u : HO) : Ob := ⟨fun a => O.M a ∨ a = D, fun H => O.P H ∧ H D = some u, O.v⟩
theorem Ob.Ok.plus {O : Ob} (ok : O.Ok) (D : Addr) (xs : List V) : (O.plus D (.lst xs)).Ok :=
 ⟨fun H H' e p => ⟨ok.loc H H' (fun a m => e a (.inl m)) p.1, (e D (.inr rfl)).trans p.2⟩,
  fun H a o p e m => by
   rcases m with m | rfl
   · exact ok.mutb H a o p.1 e m
   · rw [p.2] at e; cases e; exact ⟨fun _ h => (by cases h), fun _ _ h => (by cases h)⟩,
  fun H a p m => by
   rcases m with m | rfl
   · exact ok.here H a p.1 m
   · exact ⟨_, p.2⟩⟩
structure Stp (O : Ob) (H H' : Hp) : Prop where
 s : SameB O.M H H'
 p : O.P H → O.P H'
 t : TupStay H H'
theorem Stp.refl (O : Ob) (H : Hp) : Stp O H H := ⟨.refl _ _, fun h => h, fun _ _ _ h => h⟩
theorem Stp.trans {O : Ob} {H H1 H2 : Hp} (a : Stp O H H1) (b : Stp O H1 H2) : Stp O H H2 := ⟨a.s.trans b.s, fun h => b.p (a.p h), fun c u hu h => b.t c u hu (a.t c u hu h)⟩
theorem Stp.same {O : Ob} (ok : O.Ok) {H H' : Hp} (s : Same H H') : Stp O H H' := ⟨.of s, ok.grow H H' s, fun a u _ h => s a u h⟩
theorem same_new {H : Hp} {p : Addr} (h : H p = none) (o : HO) : Same H (upd H p o) := fun b u q => by rw [upd_ne (ne_of_none q h)]; exact q
theorem Stp.new {O : Ob} (ok : O.Ok) {H : Hp} {p : Addr} (h : H p = none) (o : HO) : Stp O H (upd H p o) := .same ok (same_new h o)
section
variable {K : PySem.W.Frag} {O : Ob} {F F' : Addr → Prop} {H H' : Hp} {v : V} {d : PyData}
theorem Is.stp (s : Stp O H H') (hF : ∀ a, F a → F' a) (hM : ∀ a, F a → ¬ O.M a) (h : Is K F H v d) : Is K F' H' v d :=
 h.to (fun a xs f q => ⟨hF a f, s.s a _ q (hM a f)⟩) fun a xs q => SqT.stay (h := q) s.t
theorem IsAll.stp {vs : List V} {ds : List PyData} (s : Stp O H H') (hF : ∀ a, F a → F' a) (hM : ∀ a, F a → ¬ O.M a) (h : IsAll K F H vs ds) : IsAll K F' H' vs ds :=
 h.to (fun a xs f q => ⟨hF a f, s.s a _ q (hM a f)⟩) fun a xs q => SqT.stay (h := q) s.t
theorem Is.weak (h : Is K F H v d) (hF : ∀ a, F a → F' a) : Is K F' H v d := h.to (fun a xs f q => ⟨hF a f, q⟩) fun a xs q => q
theorem IsAll.weak {vs : List V} {ds : List PyData} (h : IsAll K F H vs ds) (hF : ∀ a, F a → F' a) : IsAll K F' H vs ds := h.to (fun a xs f q => ⟨hF a f, q⟩) fun a xs q => q
end
mutual
def flat : PyData → Bool
 | .none => true
 | .bool _ => true
 | .int _ => true
 | .str _ => true
 | .tuple ds => flats ds
 | _ => false
def flats : List PyData → Bool
 | [] => true
 | d :: ds => flat d && flats ds
end
mutual
theorem Is.flat {K : PySem.W.Frag} {F F' : Addr → Prop} {H H' : Hp} (t : TupStay H H') : ∀ {v d}, Is K F H v d → L3.flat d = true → Is K F' H' v d
 | _, _, .none, _ => .none
 | _, _, .bool b, _ => .bool b
 | _, _, .int i, _ => .int i
 | _, _, .str x, _ => .str x
 | _, _, .list _ _ _, h => by simp [L3.flat] at h
 | _, _, .tuple q r, h => .tuple (SqT.stay t q) (IsAll.flats t r (by simpa [L3.flat] using h))
theorem IsAll.flats {K : PySem.W.Frag} {F F' : Addr → Prop} {H H' : Hp} (t : TupStay H H') : ∀ {vs ds}, IsAll K F H vs ds → L3.flats ds = true → IsAll K F' H' vs ds
 | _, _, .nil, _ => .nil
 | _, _, .cons r s, h => by
   rw [L3.flats, Bool.and_eq_true] at h
   exact .cons (Is.flat t r h.1) (IsAll.flats t s h.2)
end
theorem TupStay.refl (H : Hp) : TupStay H H := fun _ _ _ h => h
section
variable {X : Cx} {pins : List (Addr × Obj)} {σ : St} {H : Hp} {s : Shared} {F : Addr → Prop}
mutual
theorem Is.reads (I : Inv X pins σ H s) : ∀ {v d} {u : Value}, Is X.K F H v d → RelV v u → ∃ as, Reads s.heap u d as
 | _, _, _, .none, r => by cases r; exact ⟨_, .none⟩
 | _, _, _, .bool b, r => by cases r; exact ⟨_, .bool b⟩
 | _, _, _, .int i, r => by obtain ⟨t, rfl⟩ := r; exact ⟨_, .int i t⟩
 | _, _, _, .str x, r => by obtain ⟨t, rfl⟩ := r; exact ⟨_, .str x t⟩
 | _, _, _, .list f q rs, r => by
   cases r
   obtain ⟨its, rv, ⟨o, n, e, c, _, dt⟩, _⟩ := I.list (.of q)
   obtain ⟨as, ra⟩ := IsAll.reads I rs rv
   exact ⟨_, .list e c dt (by simpa using ra)⟩
 | _, _, _, .tuple q rs, r => by
   cases r
   obtain ⟨its, rv, ⟨o, e, c, n, dt⟩, _⟩ := I.tuple q
   obtain ⟨as, ra⟩ := IsAll.reads I rs rv
   exact ⟨_, .tuple e c dt (by simpa using ra)⟩
theorem IsAll.reads (I : Inv X pins σ H s) : ∀ {vs ds} {us : List Value}, IsAll X.K F H vs ds → Vals vs us → ∃ as, ReadsAll s.heap us ds as
 | _, _, _, .nil, r => by cases r; exact ⟨_, .nil⟩
 | _, _, _, .cons h t, r => by
   cases r with
   | cons r1 r2 =>
     obtain ⟨as, ra⟩ := Is.reads I h r1
     obtain ⟨bs, rb⟩ := IsAll.reads I t r2
     exact ⟨_, .cons ra rb⟩
end
end
def IsS (K : PySem.W.Frag) (F : Addr → Prop) (H : Hp) (v : V) (n : Nat) : Prop := ∃ a xs, v = .ref a ∧ xs.length = n ∧ ((F a ∧ Rd H a (.lst xs)) ∨ ∀ H', SqL K H' a xs)
theorem IsS.to {K : PySem.W.Frag} {F F' : Addr → Prop} {H H' : Hp} {v : V} {n : Nat} (hL : ∀ a u, F a → H a = some u → F' a ∧ H' a = some u) (h : IsS K F H v n) : IsS K F' H' v n := by
 obtain ⟨a, xs, e, l, ⟨f, q | ⟨o, q⟩⟩ | q⟩ := h
 · exact ⟨a, xs, e, l, .inl ⟨(hL a _ f q).1, .inl (hL a _ f q).2⟩⟩
 · exact ⟨a, xs, e, l, .inl ⟨(hL a _ f q).1, .inr ⟨o, (hL a _ f q).2⟩⟩⟩
 · exact ⟨a, xs, e, l, .inr q⟩
def DkAt (H : Hp) (v : V) (a : Addr) (ks : List Str) : Prop := v = .ref a ∧ ∃ kvs, H a = some (.dK kvs) ∧ kvs.map (·.1) = ks.map Sum.inr
theorem DkAt.to {H H' : Hp} {v : V} {a : Addr} {ks : List Str} (h : DkAt H v a ks) (e : ∀ u, H a = some u → H' a = some u) : DkAt H' v a ks := let ⟨h1, kvs, h2, h3⟩ := h; ⟨h1, kvs, e _ h2, h3⟩
inductive R where
 | o (d : PyData)
 | n (ds : List PyData)
def R.d : R → PyData
 | .o d => d
 | .n ds => .list ds
structure Thg where
 R : PySem.W.Frag → (Addr → Prop) → (Addr → Prop) → Hp → V → Prop
 to : ∀ {K : PySem.W.Frag} {F F' W W' : Addr → Prop} {H H' : Hp} {v : V}, (∀ a u, F a → H a = some u → F' a ∧ H' a = some u) → (∀ a u, W a → H a = some u → W' a ∧ H' a = some u) → TupStay H H' → R K F W H v → R K F' W' H' v
inductive DV where
 | im (d : PyData)
 | own (ds : List PyData)
 | ob
 | scr (n : Nat)
 | dct (ks : List Str)
   | gen (f : Addr → List V → HO) (ds : List PyData)
   | rd (f : Addr → List V → HO) (ds : List PyData)
   | exc (C : Addr) (ns : List Str) (ds : List PyData)
   | thg (T : Thg)
   | thr (T : Thg)
abbrev DSt := List (Option DV)
abbrev DE := DSt → (R → Prop) → Prop
abbrev DT := DSt → (Bool → Prop) → Prop
abbrev DA := DSt → (List PyData → Prop) → Prop
def unM (O : Ob) : Addr → Prop := fun a => ¬ O.M a
def ExAt (F : Addr → Prop) (H : Hp) (v : V) (C : Addr) (ns : List Str) (xs : List V) : Prop := ∃ a dx, v = .ref a ∧ F a ∧ F dx ∧ H a = some (XR a C dx) ∧ H dx = some (.xd (ns.zip xs)) ∧ xs.length = ns.length
theorem ExAt.to {F F' : Addr → Prop} {H H' : Hp} {v : V} {C : Addr} {ns : List Str} {xs : List V} (hL : ∀ a u, F a → H a = some u → F' a ∧ H' a = some u) (h : ExAt F H v C ns xs) : ExAt F' H' v C ns xs := by
 obtain ⟨a, dx, e, f1, f2, q1, q2, l⟩ := h
 exact ⟨a, dx, e, (hL a _ f1 q1).1, (hL dx _ f2 q2).1, (hL a _ f1 q1).2, (hL dx _ f2 q2).2, l⟩
def SeenV (K : PySem.W.Frag) (O : Ob) (H : Hp) (v : V) : DV → Prop
 | .im d => Is K (unM O) H v d
 | .own ds => Is K (unM O) H v (.list ds)
 | .ob => v = O.v
 | .scr n => IsS K (unM O) H v n
 | .dct ks => ∃ a, ¬ O.M a ∧ DkAt H v a ks
 | .gen f ds => ∃ a xs, v = .ref a ∧ ¬ O.M a ∧ H a = some (f a xs) ∧ IsAll K (unM O) H xs ds
 | .rd f ds => ∃ a xs, v = .ref a ∧ ¬ O.M a ∧ H a = some (f a xs) ∧ IsAll K (unM O) H xs ds
 | .exc C ns ds => ∃ xs, ExAt (unM O) H v C ns xs ∧ IsAll K (unM O) H xs ds
 | .thg T => ∃ W : Addr → Prop, (∀ a, W a → ¬ O.M a ∧ ∃ o, H a = some o) ∧ T.R K (unM O) W H v
 | .thr T => ∃ W : Addr → Prop, (∀ a, W a → ¬ O.M a ∧ ∃ o, H a = some o) ∧ T.R K (unM O) W H v
structure Seen (K : PySem.W.Frag) (O : Ob) (H : Hp) (σ : St) (ρ : DSt) : Prop where
 ok : O.Ok
 p : O.P H
 at_ : ∀ (i : Nat) r, ρ[i]? = some (some r) → ∃ v, σ[i]? = some (some v) ∧ SeenV K O H v r
 len : ρ.length = σ.length
theorem SeenV.stp {K : PySem.W.Frag} {O : Ob} {H H' : Hp} {v : V} {r : DV} (s : Stp O H H') (h : SeenV K O H v r) : SeenV K O H' v r := by
 cases r with
 | im d => exact Is.stp s (fun _ f => f) (fun _ f => f) h
 | own ds => exact Is.stp s (fun _ f => f) (fun _ f => f) h
 | ob => exact h
 | scr n => exact IsS.to (fun a u f q => ⟨f, s.s a u q f⟩) h
 | dct ks => obtain ⟨a, n, h⟩ := h; exact ⟨a, n, h.to fun u q => s.s a u q n⟩
 | gen f ds => obtain ⟨a, xs, e, n, q, z⟩ := h; exact ⟨a, xs, e, n, s.s a _ q n, IsAll.stp s (fun _ f => f) (fun _ f => f) z⟩
 | rd f ds => obtain ⟨a, xs, e, n, q, z⟩ := h; exact ⟨a, xs, e, n, s.s a _ q n, IsAll.stp s (fun _ f => f) (fun _ f => f) z⟩
 | exc C ns ds => obtain ⟨xs, e, z⟩ := h; exact ⟨xs, e.to fun a u f q => ⟨f, s.s a u q f⟩, IsAll.stp s (fun _ f => f) (fun _ f => f) z⟩
 | thg T => obtain ⟨W, hw, z⟩ := h; exact ⟨W, fun a w => ⟨(hw a w).1, let ⟨o, e⟩ := (hw a w).2; ⟨o, s.s a o e (hw a w).1⟩⟩, T.to (fun a u f q => ⟨f, s.s a u q f⟩) (fun a u w q => ⟨w, s.s a u q (hw a w).1⟩) s.t z⟩
 | thr T => obtain ⟨W, hw, z⟩ := h; exact ⟨W, fun a w => ⟨(hw a w).1, let ⟨o, e⟩ := (hw a w).2; ⟨o, s.s a o e (hw a w).1⟩⟩, T.to (fun a u f q => ⟨f, s.s a u q f⟩) (fun a u w q => ⟨w, s.s a u q (hw a w).1⟩) s.t z⟩
theorem Seen.stp {K : PySem.W.Frag} {O : Ob} {H H' : Hp} {σ : St} {ρ : DSt} (S : Seen K O H σ ρ) (s : Stp O H H') : Seen K O H' σ ρ :=
 ⟨S.ok, s.p S.p, fun i r e => let ⟨v, h1, h2⟩ := S.at_ i r e; ⟨v, h1, h2.stp s⟩, S.len⟩
def Out (K : PySem.W.Frag) (O : Ob) (H H' : Hp) (v : V) : R → Prop
 | .o d => Is K (unM O) H' v d
 | .n ds => ∃ a xs, v = .ref a ∧ H a = none ∧ H' a = some (.lst xs) ∧ IsAll K (unM O) H' xs ds
theorem Out.is {K : PySem.W.Frag} {O : Ob} {H H' : Hp} {v : V} {r : R} (ok : O.Ok) (p : O.P H) (h : Out K O H H' v r) : Is K (unM O) H' v r.d := by
 cases r with
 | o d => exact h
 | n ds =>
   obtain ⟨a, xs, rfl, hn, e, q⟩ := h
   exact .list (fun m => by obtain ⟨o, z⟩ := ok.here H a p m; rw [hn] at z; cases z) e q
def ED (K : PySem.W.Frag) (O : Ob) (t : TE) (f : DE) : Prop :=
 ∀ (σ : St) (H : Hp) (ρ : DSt) (Q : VK) (Qd : R → Prop), Seen K O H σ ρ → f ρ Qd → (∀ v H' r, Stp O H H' → Out K O H H' v r → Qd r → Q v H') → t σ H Q
def TD (K : PySem.W.Frag) (O : Ob) (t : TT) (f : DT) : Prop :=
 ∀ (σ : St) (H : Hp) (ρ : DSt) (Q : Bool → Hp → Prop) (Qd : Bool → Prop), Seen K O H σ ρ → f ρ Qd → (∀ b H', Stp O H H' → Qd b → Q b H') → t σ H Q
def AD (K : PySem.W.Frag) (O : Ob) (t : TA) (f : DA) : Prop :=
 ∀ (σ : St) (H : Hp) (ρ : DSt) (Q : List V → Hp → Prop) (Qd : List PyData → Prop), Seen K O H σ ρ → f ρ Qd → (∀ vs H' ds, Stp O H H' → IsAll K (unM O) H' vs ds → Qd ds → Q vs H') → t σ H Q
section
variable {K : PySem.W.Frag} {O : Ob}
def cD (d : PyData) : DE := fun _ Q => Q (.o d)
theorem ed_int {i : Int} : ED K O (tC (.int i)) (cD (.int i)) := fun σ H ρ Q Qd S h k => k _ H (.o (.int i)) (.refl _ _) (Is.int i) h
theorem ed_str {x : Str} : ED K O (tC (.str x)) (cD (.str x)) := fun σ H ρ Q Qd S h k => k _ H (.o (.str x)) (.refl _ _) (Is.str x) h
theorem ed_bl {b : Bool} : ED K O (tC (.bl b)) (cD (.bool b)) := fun σ H ρ Q Qd S h k => k _ H (.o (.bool b)) (.refl _ _) (Is.bool b) h
def seeR : DV → Option PyData
 | .im d => some d
 | .own ds => some (.list ds)
 | .ob => none
 | .scr _ => none
 | .dct _ => none
 | .gen _ _ => none
 | .rd _ _ => none
 | .exc _ _ _ => none
 | .thg _ => none
 | .thr _ => none
def vD (i : Nat) : DE := fun ρ Q => ∃ r d, ρ[i]? = some (some r) ∧ seeR r = some d ∧ Q (.o d)
theorem ed_var {i : Nat} : ED K O (tVar i) (vD i) := fun σ H ρ Q Qd S h k => by
 obtain ⟨r, d, e, e2, h⟩ := h
 obtain ⟨v, hv, sv⟩ := S.at_ i r e
 refine ⟨v, hv, k _ H _ (.refl _ _) ?_ h⟩
 cases r with
 | im d' => cases e2; exact sv
 | own ds => cases e2; exact sv
 | ob => cases e2
 | scr n => cases e2
 | dct ks => cases e2
 | gen f ds => cases e2
 | rd f ds => cases e2
 | exc C ns ds => cases e2
 | thg T => cases e2
 | thr T => cases e2
def OpD (K : PySem.W.Frag) (O : Ob) (r : R2) (f : PyData → PyData → (R → Prop) → Prop) : Prop :=
 ∀ (H : Hp) (x y : V) (d e : PyData) (Q : VK) (Qd : R → Prop), O.Ok → O.P H → Is K (unM O) H x d → Is K (unM O) H y e → f d e Qd → (∀ v H' r, Stp O H H' → Out K O H H' v r → Qd r → Q v H') → r x y H Q
theorem Out.ahead {H H1 H2 : Hp} {v : V} {r : R} (ok : O.Ok) (p : O.P H) (s1 : Stp O H H1) (h : Out K O H1 H2 v r) : Out K O H H2 v r := by
 cases r with
 | o d => exact h
 | n ds =>
   obtain ⟨a, xs, rfl, hn, e, q⟩ := h
   have m : ¬ O.M a := fun m => by obtain ⟨o, z⟩ := ok.here H1 a (s1.p p) m; rw [hn] at z; cases z
   exact ⟨a, xs, rfl, s1.s.free m hn, e, q⟩
def opDE (f : PyData → PyData → (R → Prop) → Prop) (fa fb : DE) : DE := fun ρ Q => fa ρ fun a => fb ρ fun b => f a.d b.d Q
theorem ed_op {r : R2} {ta tb : TE} {f : PyData → PyData → (R → Prop) → Prop} {fa fb : DE} (hr : OpD K O r f) (ha : ED K O ta fa) (hb : ED K O tb fb) : ED K O (tOp r ta tb) (opDE f fa fb) := fun σ H ρ Q Qd S h k => by
 refine ha σ H ρ _ _ S h fun v H1 a s1 o1 h1 => ?_
 refine hb σ H1 ρ _ _ (S.stp s1) h1 fun w H2 b s2 o2 h2 => ?_
 have p1 := s1.p S.p
 refine hr H2 v w a.d b.d _ _ S.ok (s2.p p1) (Is.stp s2 (fun _ f => f) (fun _ f => f) (o1.is S.ok S.p)) (o2.is S.ok p1) h2 fun z H3 c s3 o3 h3 => ?_
 exact k z H3 c ((s1.trans s2).trans s3) (Out.ahead S.ok S.p (s1.trans s2) o3) h3
def fn2 (F : PyData → PyData → Option R) : PyData → PyData → (R → Prop) → Prop := fun a b Q => ∃ r, F a b = some r ∧ Q r
def bD (f : DE) : DT := fun ρ Q => f ρ fun r => ∃ b, r.d = .bool b ∧ Q b
theorem td_val {t : TE} {f : DE} (h : ED K O t f) : TD K O (tTest t) (bD f) := fun σ H ρ Q Qd S hf k => by
 refine h σ H ρ _ _ S hf fun v H1 r s1 o1 ⟨b, e, q⟩ => ?_
 have i := o1.is S.ok S.p
 rw [e] at i
 cases i
 exact ⟨b, rfl, k b H1 s1 q⟩
theorem td_valB {t : TE} {f : DE} (h : ED K O t f) : TD K O (tB t) (bD f) := fun σ H ρ Q Qd S hf k => by
 refine h σ H ρ _ _ S hf fun v H1 r s1 o1 ⟨b, e, q⟩ => ?_
 have i := o1.is S.ok S.p
 rw [e] at i
 cases i
 exact ⟨b, rfl, k b H1 s1 q⟩
def andT (f g : DT) : DT := fun ρ Q => f ρ fun b => if b = true then g ρ Q else Q false
def orT (f g : DT) : DT := fun ρ Q => f ρ fun b => if b = true then Q true else g ρ Q
def notT (f : DT) : DT := fun ρ Q => f ρ fun b => Q (!b)
theorem td_and {t u : TT} {f g : DT} (h : TD K O t f) (h' : TD K O u g) : TD K O (tAnd t u) (andT f g) := fun σ H ρ Q Qd S hf k => by
 refine h σ H ρ _ _ S hf fun b H1 s1 q => ?_
 cases b with
 | true => exact h' σ H1 ρ _ _ (S.stp s1) q fun c H2 s2 q2 => k c H2 (s1.trans s2) q2
 | false => exact k false H1 s1 q
theorem td_or {t u : TT} {f g : DT} (h : TD K O t f) (h' : TD K O u g) : TD K O (tOr t u) (orT f g) := fun σ H ρ Q Qd S hf k => by
 refine h σ H ρ _ _ S hf fun b H1 s1 q => ?_
 cases b with
 | false => exact h' σ H1 ρ _ _ (S.stp s1) q fun c H2 s2 q2 => k c H2 (s1.trans s2) q2
 | true => exact k true H1 s1 q
theorem td_not {t : TT} {f : DT} (h : TD K O t f) : TD K O (tNot t) (notT f) := fun σ H ρ Q Qd S hf k => h σ H ρ _ _ S hf fun b H1 s1 q => k (!b) H1 s1 q
def andV (f g : DE) : DE := fun ρ Q => f ρ fun r => ∃ b, r.d = .bool b ∧ if b = true then g ρ Q else Q (.o (.bool false))
def notV (f : DE) : DE := fun ρ Q => f ρ fun r => ∃ b, r.d = .bool b ∧ Q (.o (.bool (!b)))
theorem ed_andV {t u : TE} {f g : DE} (h : ED K O t f) (h' : ED K O u g) : ED K O (tAndV t u) (andV f g) := fun σ H ρ Q Qd S hf k => by
 refine h σ H ρ _ _ S hf fun v H1 r s1 o1 ⟨b, e, q⟩ => ?_
 have i := o1.is S.ok S.p
 rw [e] at i
 cases i
 refine ⟨b, rfl, ?_⟩
 cases b with
 | true => exact h' σ H1 ρ _ _ (S.stp s1) q fun c H2 r s2 o2 q2 => k c H2 r (s1.trans s2) (o2.ahead S.ok S.p s1) q2
 | false => exact k (.bl false) H1 (.o (.bool false)) s1 (.bool false) q
theorem ed_notV {t : TE} {f : DE} (h : ED K O t f) : ED K O (tNotV t) (notV f) := fun σ H ρ Q Qd S hf k => by
 refine h σ H ρ _ _ S hf fun v H1 r s1 o1 ⟨b, e, q⟩ => ?_
 have i := o1.is S.ok S.p
 rw [e] at i
 cases i
 exact ⟨b, rfl, k _ H1 (.o (.bool (!b))) s1 (.bool _) q⟩
def aNil : DA := fun _ Q => Q []
def aCons (f : DE) (g : DA) : DA := fun ρ Q => f ρ fun r => g ρ fun ds => Q (r.d :: ds)
theorem ad_nil : AD K O tNil aNil := fun σ H ρ Q Qd S h k => k [] H [] (.refl _ _) .nil h
theorem ad_cons {t : TE} {u : TA} {f : DE} {g : DA} (h : ED K O t f) (h' : AD K O u g) : AD K O (tCons t u) (aCons f g) := fun σ H ρ Q Qd S hf k => by
 refine h σ H ρ _ _ S hf fun v H1 r s1 o1 q => ?_
 refine h' σ H1 ρ _ _ (S.stp s1) q fun vs H2 ds s2 o2 q2 => ?_
 exact k (v :: vs) H2 (r.d :: ds) (s1.trans s2) (.cons (Is.stp s2 (fun _ f => f) (fun _ f => f) (o1.is S.ok S.p)) o2) q2
def tupD (g : DA) : DE := fun ρ Q => g ρ fun ds => ds.length ≤ sizeLine ∧ Q (.o (.tuple ds))
def lstD (g : DA) : DE := fun ρ Q => g ρ fun ds => ds.length ≤ sizeLine ∧ Q (.n ds)
theorem ed_tup {u : TA} {g : DA} (h : AD K O u g) : ED K O (tTup u) (tupD g) := fun σ H ρ Q Qd S hf k => by
 refine h σ H ρ _ _ S hf fun vs H1 ds s1 o1 ⟨z, q⟩ => ⟨by rw [o1.length]; exact z, fun p hp => ?_⟩
 have s2 : Stp O H1 (upd H1 p (.tup vs)) := .new S.ok hp _
 exact k _ _ (.o (.tuple ds)) (s1.trans s2) (.tuple (.of upd_same) (o1.stp s2 (fun _ f => f) (fun _ f => f))) q
theorem ed_lst {u : TA} {g : DA} (h : AD K O u g) : ED K O (tLst u) (lstD g) := fun σ H ρ Q Qd S hf k => by
 refine h σ H ρ _ _ S hf fun vs H1 ds s1 o1 ⟨z, q⟩ => ⟨by rw [o1.length]; exact z, fun p hp => ?_⟩
 have s2 : Stp O H1 (upd H1 p (.lst vs)) := .new S.ok hp _
 have m : ¬ O.M p := fun m => by obtain ⟨o, z⟩ := S.ok.here H1 p (s1.p S.p) m; rw [hp] at z; cases z
 exact k _ _ (.n ds) (s1.trans s2) ⟨p, vs, rfl, s1.s.free m hp, upd_same, o1.stp s2 (fun _ f => f) (fun _ f => f)⟩ q
def CallD (K : PySem.W.Frag) (O : Ob) (r : List V → Hp → VK → Prop) (f : List PyData → (R → Prop) → Prop) : Prop :=
 ∀ (H : Hp) (vs : List V) (ds : List PyData) (Q : VK) (Qd : R → Prop), O.Ok → O.P H → IsAll K (unM O) H vs ds → f ds Qd → (∀ v H' r, Stp O H H' → Out K O H H' v r → Qd r → Q v H') → r vs H Q
def callDE (f : List PyData → (R → Prop) → Prop) (g : DA) : DE := fun ρ Q => g ρ fun ds => f ds Q
theorem ed_callB {r : List V → Hp → VK → Prop} {u : TA} {f : List PyData → (R → Prop) → Prop} {g : DA} (hr : CallD K O r f) (h : AD K O u g) : ED K O (tCB r u) (callDE f g) := fun σ H ρ Q Qd S hf k => by
 refine h σ H ρ _ _ S hf fun vs H1 ds s1 o1 q => ?_
 exact hr H1 vs ds _ _ S.ok (s1.p S.p) o1 q fun v H2 r s2 o2 q2 => k v H2 r (s1.trans s2) (o2.ahead S.ok S.p s1) q2
def fn1 (F : List PyData → Option R) : List PyData → (R → Prop) → Prop := fun ds Q => ∃ r, F ds = some r ∧ Q r
end
end L3
namespace L3
open PySem PySem.Spec
open PyProof.Rows hiding St
open L2
abbrev DG := PyData → DSt → (DSt → Prop) → Prop
def gN (i : Nat) : DG := fun d ρ Q => Q (ρ.set i (some (.im d)))
def gTD : List Nat → List PyData → DSt → (DSt → Prop) → Prop
 | [], [], ρ, Q => Q ρ
 | i :: is, d :: ds, ρ, Q => gTD is ds (ρ.set i (some (.im d))) Q
 | _, _, _, _ => False
def gT (is : List Nat) : DG := fun d ρ Q => ∃ ds, d = .tuple ds ∧ gTD is ds ρ Q
def GS (K : PySem.W.Frag) (O : Ob) (t : TG) (g : DG) : Prop :=
 ∀ (σ : St) (H : Hp) (ρ : DSt) (v : V) (d : PyData) (Q : St → Hp → Prop) (Qd : DSt → Prop), Seen K O H σ ρ → Is K (unM O) H v d → g d ρ Qd → (∀ σ' ρ', Seen K O H σ' ρ' → Qd ρ' → Q σ' H) → t v σ H Q
section
variable {K : PySem.W.Frag} {O : Ob}
theorem Seen.set {H : Hp} {σ : St} {ρ : DSt} {i : Nat} {v : V} {r : DV} (S : Seen K O H σ ρ) (h : SeenV K O H v r) : Seen K O H (σ.set i (some v)) (ρ.set i (some r)) := by
 have hl := S.len
 refine ⟨S.ok, S.p, fun j r' e => ?_, by rw [List.length_set, List.length_set]; exact S.len⟩
 by_cases hj : i = j
 · subst hj
   have hi : i < ρ.length := by
     rcases Nat.lt_or_ge i ρ.length with z | z
     · exact z
     · rw [List.getElem?_eq_none (by simpa using z)] at e; cases e
   rw [List.getElem?_set_self hi] at e
   cases e
   exact ⟨v, List.getElem?_set_self (by omega), h⟩
 · rw [List.getElem?_set_ne hj] at e
   obtain ⟨w, h1, h2⟩ := S.at_ j r' e
   exact ⟨w, by rw [List.getElem?_set_ne hj]; exact h1, h2⟩
theorem gs_name {i : Nat} : GS K O (gName i) (gN i) := fun σ H ρ v d Q Qd S i h k => k _ _ (S.set (r := .im d) i) h
def GSs (K : PySem.W.Frag) (O : Ob) (t : TGs) (is : List Nat) : Prop :=
 ∀ (σ : St) (H : Hp) (ρ : DSt) (vs : List V) (ds : List PyData) (Q : St → Hp → Prop) (Qd : DSt → Prop), Seen K O H σ ρ → IsAll K (unM O) H vs ds → gTD is ds ρ Qd → (∀ σ' ρ', Seen K O H σ' ρ' → Qd ρ' → Q σ' H) → t vs σ H Q
theorem gss_nil : GSs K O gNil [] := fun σ H ρ vs ds Q Qd S i h k => by
 cases i with
 | nil => exact ⟨rfl, k σ ρ S h⟩
 | cons _ _ => exact h.elim
theorem gss_cons {i : Nat} {is : List Nat} {t : TGs} (ht : GSs K O t is) : GSs K O (gCons (gName i) t) (i :: is) := fun σ H ρ vs ds Q Qd S h q k => by
 cases h with
 | nil => exact q.elim
 | cons h1 h2 => exact ⟨_, _, rfl, ht _ H _ _ _ _ _ (S.set (r := .im _) h1) h2 q k⟩
theorem gTD_len : ∀ {is : List Nat} {ds : List PyData} {ρ : DSt} {Q : DSt → Prop}, gTD is ds ρ Q → ds.length = is.length
 | [], [], _, _, _ => rfl
 | [], _ :: _, _, _, h => h.elim
 | _ :: _, [], _, _, h => h.elim
 | _ :: is, _ :: ds, ρ, Q, h => by
   have e := gTD_len (is := is) (ds := ds) (Q := Q) h
   rw [List.length_cons, List.length_cons, e]
theorem gs_tup {is : List Nat} {t : TGs} {n : Nat} (hn : is.length = n) (ht : GSs K O t is) : GS K O (gTup K n t) (gT is) := fun σ H ρ v d Q Qd S i h k => by
 obtain ⟨ds, rfl, h⟩ := h
 cases i with
 | tuple q r => exact ⟨_, _, rfl, q, by rw [r.length, gTD_len h]; exact hn, ht σ H ρ _ ds Q Qd S r h k⟩
structure Walk (K : PySem.W.Frag) (O : Ob) (H H1 : Hp) (J : It) (ds : List PyData) (B : Addr → Prop) : Prop where
 st : Stp O H H1
 hb : ∀ a, B a → ¬ O.M a ∧ ∃ o, H1 a = some o
 stop : ∀ H2 i, (∀ a o, B a → H1 a = some o → H2 a = some o) → TupStay H1 H2 → ds.length ≤ i → J.stop i H2
 item : ∀ H2 i d, (∀ a o, B a → H1 a = some o → H2 a = some o) → TupStay H1 H2 → ds[i]? = some d → (flat d = true ∨ ∀ a o, H1 a = some o → ¬ O.M a → H2 a = some o) →
   J.go i H2 ∧ ∀ x H3, J.yld i H2 x H3 → Same H2 H3 ∧ Is K (fun a => ¬ O.M a ∧ (flat d = true ∨ ∃ o, H1 a = some o)) H3 x d
abbrev DI := DSt → (Bool → List PyData → Prop) → Prop
def SrcS (K : PySem.W.Frag) (O : Ob) (wi : TI) (f : DI) : Prop :=
 ∀ (σ : St) (H : Hp) (ρ : DSt) (R : It → Hp → Prop) (Qd : Bool → List PyData → Prop), Seen K O H σ ρ → f ρ Qd →
   (∀ (J : It) (H1 : Hp) (ds : List PyData) (B : Addr → Prop) (fr : Bool), Walk K O H H1 J ds B → (fr = true → ∀ a, B a → H a = none) → Qd fr ds → R J H1) → wi σ H R
end
def compGo (h : Nat) (g : DG) (ft : DT) (fe : DE) (ρ : DSt) (Q : List PyData → Prop) : List PyData → List PyData → Prop
 | [], acc => Q acc
 | d :: ds, acc => g d (List.replicate h none ++ ρ) fun ρ2 => ft ρ2 fun b => if b = true then fe ρ2 fun r => acc.length < sizeLine ∧ compGo h g ft fe ρ Q ds (acc ++ [r.d]) else compGo h g ft fe ρ Q ds acc
def compD (h : Nat) (f : DI) (g : DG) (ft : DT) (fe : DE) : DE := fun ρ Q => f ρ fun _ ds => compGo h g ft fe ρ (fun es => Q (.n es)) ds []
section
variable {K : PySem.W.Frag} {O : Ob}
theorem seen_pad {H : Hp} {σ : St} {ρ : DSt} (S : Seen K O H σ ρ) (h : Nat) : Seen K O H (List.replicate h none ++ σ) (List.replicate h none ++ ρ) := by
 refine ⟨S.ok, S.p, fun i r e => ?_, by rw [List.length_append, List.length_append, List.length_replicate, List.length_replicate, S.len]⟩
 by_cases hi : i < h
 · rw [List.getElem?_append_left (by simpa using hi), List.getElem?_replicate, if_pos hi] at e
   cases e
 · rw [List.getElem?_append_right (by simpa using Nat.le_of_not_lt hi), List.length_replicate] at e
   obtain ⟨v, h1, h2⟩ := S.at_ _ r e
   exact ⟨v, by rw [List.getElem?_append_right (by simpa using Nat.le_of_not_lt hi), List.length_replicate]; exact h1, h2⟩
theorem seen_plus {H : Hp} {σ : St} {ρ : DSt} {D : Addr} {xs : List V} (S : Seen K O H σ ρ) (hD : H D = none) : Seen K (O.plus D (.lst xs)) (upd H D (.lst xs)) σ ρ := by
 have gr : Same H (upd H D (.lst xs)) := same_new hD _
 refine ⟨S.ok.plus D xs, ⟨S.ok.grow _ _ gr S.p, upd_same⟩, fun i r e => ?_, S.len⟩
 obtain ⟨v, h1, h2⟩ := S.at_ i r e
 have go : ∀ d, Is K (unM O) H v d → Is K (unM (O.plus D (.lst xs))) (upd H D (.lst xs)) v d := fun d z =>
   z.to (fun a ys f q => ⟨fun m => (by
     rcases m with m | rfl
     · exact f m
     · rw [hD] at q; cases q), gr _ _ q⟩) fun a ys q => SqT.stay (h := q) fun b u _ hb => gr b u hb
 refine ⟨v, h1, ?_⟩
 cases r with
 | im d => exact go d h2
 | own ds => exact go _ h2
 | ob => exact h2
 | scr n => exact IsS.to (fun a u f q => ⟨fun m => (by
     rcases m with m | rfl
     · exact f m
     · rw [hD] at q; cases q), gr _ _ q⟩) h2
 | dct ks =>
   obtain ⟨a, n, h2⟩ := h2
   refine ⟨a, fun m => ?_, h2.to fun u q => gr _ _ q⟩
   rcases m with m | rfl
   · exact n m
   · obtain ⟨_, kvs, q, _⟩ := h2
     rw [hD] at q
     cases q
 | gen f ds =>
   obtain ⟨a, ys, e, n, q, z⟩ := h2
   refine ⟨a, ys, e, fun m => ?_, gr _ _ q, z.to (fun a ys f q => ⟨fun m => (by
     rcases m with m | rfl
     · exact f m
     · rw [hD] at q; cases q), gr _ _ q⟩) fun a ys q => SqT.stay (h := q) fun b u _ hb => gr b u hb⟩
   rcases m with m | rfl
   · exact n m
   · rw [hD] at q; cases q
 | rd f ds =>
   obtain ⟨a, ys, e, n, q, z⟩ := h2
   refine ⟨a, ys, e, fun m => ?_, gr _ _ q, z.to (fun a ys f q => ⟨fun m => (by
     rcases m with m | rfl
     · exact f m
     · rw [hD] at q; cases q), gr _ _ q⟩) fun a ys q => SqT.stay (h := q) fun b u _ hb => gr b u hb⟩
   rcases m with m | rfl
   · exact n m
   · rw [hD] at q; cases q
 | exc C ns ds =>
   obtain ⟨ys, e, z⟩ := h2
   have mv : ∀ a u, unM O a → H a = some u → unM (O.plus D (.lst xs)) a ∧ upd H D (.lst xs) a = some u := fun a u f q => ⟨fun m => (by
     rcases m with m | rfl
     · exact f m
     · rw [hD] at q; cases q), gr _ _ q⟩
   exact ⟨ys, e.to mv, z.to (fun a ys f q => mv a _ f q) fun a ys q => SqT.stay (h := q) fun b u _ hb => gr b u hb⟩
 | thg T =>
   obtain ⟨W, hw, z⟩ := h2
   exact ⟨W, fun a w => ⟨fun m => (by
     obtain ⟨n, o, q⟩ := hw a w
     rcases m with m | rfl
     · exact n m
     · rw [hD] at q; cases q), let ⟨o, q⟩ := (hw a w).2; ⟨o, gr _ _ q⟩⟩, T.to (fun a u f q => ⟨fun m => (by
     rcases m with m | rfl
     · exact f m
     · rw [hD] at q; cases q), gr _ _ q⟩) (fun a u w q => ⟨w, gr _ _ q⟩) (fun b u _ hb => gr b u hb) z⟩
 | thr T =>
   obtain ⟨W, hw, z⟩ := h2
   exact ⟨W, fun a w => ⟨fun m => (by
     obtain ⟨n, o, q⟩ := hw a w
     rcases m with m | rfl
     · exact n m
     · rw [hD] at q; cases q), let ⟨o, q⟩ := (hw a w).2; ⟨o, gr _ _ q⟩⟩, T.to (fun a u f q => ⟨fun m => (by
     rcases m with m | rfl
     · exact f m
     · rw [hD] at q; cases q), gr _ _ q⟩) (fun a u w q => ⟨w, gr _ _ q⟩) (fun b u _ hb => gr b u hb) z⟩
theorem ed_comp {h : Nat} {wi : TI} {tg : TG} {tf : TT} {te : TE} {f : DI} {g : DG} {ft : DT} {fe : DE} (hs : SrcS K O wi f) (hg : ∀ O' : Ob, GS K O' tg g)
   (hf : ∀ (D : Addr) (xs : List V), ¬ O.M D → TD K (O.plus D (.lst xs)) tf ft) (he : ∀ (D : Addr) (xs : List V), ¬ O.M D → ED K (O.plus D (.lst xs)) te fe) : ED K O (tComp h wi tg tf te) (compD h f g ft fe) := by
 intro σ H ρ Q Qd S hq k
 refine hs σ H ρ _ _ S hq fun J H1 ds B fr W _ hgo D hD => ?_
 have S1 := S.stp W.st
 have nM : ¬ O.M D := fun m => by obtain ⟨o, z⟩ := S.ok.here H1 D S1.p m; rw [hD] at z; cases z
 have aD : ∀ a o, H1 a = some o → a ≠ D := fun a o e z => by rw [z, hD] at e; cases e
 refine ⟨fun i m ys H2 => m = ds.length - i ∧ i ≤ ds.length ∧ H2 D = some (.lst ys) ∧ (∀ a o, H1 a = some o → ¬ O.M a → H2 a = some o) ∧ TupStay H1 H2 ∧ Seen K (O.plus D (.lst ys)) H2 σ ρ ∧
     ∃ acc, IsAll K (fun a => ¬ (O.M a ∨ a = D)) H2 ys acc ∧ compGo h g ft fe ρ (fun es => Qd (.n es)) (ds.drop i) acc, ⟨ds.length, rfl, Nat.zero_le _, upd_same, fun a o e _ => by rw [upd_ne (aD a o e)]; exact e, fun a u _ e => by rw [upd_ne (aD a u e)]; exact e, seen_plus S1 hD, [], .nil, by simpa using hgo⟩, ?_⟩
 rintro i m ys H2 ⟨rfl, hi, hDy, kp, tst, S2, acc, hacc, go⟩
 refine ⟨hDy, ?_⟩
 have kB : ∀ a o, B a → H1 a = some o → H2 a = some o := fun a o b e => kp a o e (W.hb a b).1
 by_cases hlt : i < ds.length
 · right
   have hd : ds[i]? = some ds[i] := List.getElem?_eq_getElem hlt
   rw [List.drop_eq_getElem_cons hlt] at go
   obtain ⟨hgo1, hy⟩ := W.item H2 i ds[i] kB tst hd (.inr kp)
   refine ⟨hgo1, fun x H3 y => ?_⟩
   obtain ⟨sm, ix⟩ := hy x H3 y
   have st3 : Stp (O.plus D (.lst ys)) H2 H3 := .same S2.ok sm
   have S3 := S2.stp st3
   have ix' : Is K (unM (O.plus D (.lst ys))) H3 x ds[i] := by
     by_cases hfl : flat ds[i] = true
     · exact Is.flat (TupStay.refl H3) ix hfl
     · exact ix.weak fun a ha mm => by
         rcases mm with mm | mm
         · exact ha.1 mm
         · rcases ha.2 with z | ⟨o, z⟩
           · exact hfl z
           · exact aD a o z mm
   refine hg _ _ H3 _ x ds[i] _ _ (seen_pad S3 h) ix' go fun σ2 ρ2 Sg q => ?_
   refine hf D ys nM σ2 H3 ρ2 _ _ Sg q fun b H4 st4 q4 => ?_
   have st34 := st3.trans st4
   have acc4 : ∀ {H' : Hp}, Stp (O.plus D (.lst ys)) H2 H' → IsAll K (fun a => ¬ (O.M a ∨ a = D)) H' ys acc := fun st => hacc.stp st (fun _ z => z) (fun _ z => z)
   cases b with
   | false =>
     refine ⟨ds.length - (i + 1), by omega, rfl, hlt, st34.s D _ hDy |> fun z => (st34.p S2.p).2, fun a o e n => ?_, fun a u hu e => st34.t a u hu (tst a u hu e), S2.stp st34, acc, acc4 st34, q4⟩
     exact st34.s a o (kp a o e n) fun mm => by
       rcases mm with mm | mm
       · exact n mm
       · exact aD a o e mm
   | true =>
     refine he D ys nM σ2 H4 ρ2 _ _ (Sg.stp st4) q4 fun yv H5 r st5 o5 ⟨hz, q5⟩ => ?_
     have st25 := st34.trans st5
     have S5 := S2.stp st25
     have hD5 : H5 D = some (.lst ys) := (st25.p S2.p).2
     have iy := o5.is (Sg.stp st4).ok (Sg.stp st4).p
     have a5 := acc4 st25
     refine ⟨hD5, by rw [hacc.length]; exact hz, ds.length - (i + 1), by omega, rfl, hlt, upd_same, fun a o e n => ?_, fun a u hu e => ?_, ?_, acc ++ [r.d], ?_, q5⟩
     · rw [upd_ne (aD a o e)]
       exact st25.s a o (kp a o e n) fun mm => by
         rcases mm with mm | mm
         · exact n mm
         · exact aD a o e mm
     · rw [upd_ne (aD a u e)]
       exact st25.t a u hu (tst a u hu e)
     · have p5 : O.P (upd H5 D (.lst (ys ++ [yv]))) := S.ok.loc H5 _ (fun a m => upd_ne fun z => nM (z ▸ m)) S5.p.1
       refine ⟨S.ok.plus D _, ⟨p5, upd_same⟩, fun j r' e => ?_, S5.len⟩
       obtain ⟨v', h1, h2⟩ := S5.at_ j r' e
       have go : ∀ d, Is K (unM (O.plus D (.lst ys))) H5 v' d → Is K (unM (O.plus D (.lst (ys ++ [yv])))) (upd H5 D (.lst (ys ++ [yv]))) v' d := fun d z =>
         z.to (fun a xs fa qa => ⟨fa, by rw [upd_ne fun z => fa (.inr z)]; exact qa⟩) fun a xs qa => SqT.stay (h := qa) fun b u hu hb => by
           rw [upd_ne fun z => ?_]
           · exact hb
           · obtain ⟨us, e1 | ⟨o', e1⟩⟩ := hu <;> (rw [z, hD5] at hb; cases hb; cases e1)
       refine ⟨v', h1, ?_⟩
       cases r' with
       | im d => exact go d h2
       | own es => exact go _ h2
       | ob => exact h2
       | scr n => exact IsS.to (fun a u fa qa => ⟨fa, by rw [upd_ne fun z => fa (.inr z)]; exact qa⟩) h2
       | dct ks => obtain ⟨a, fa, h2⟩ := h2; exact ⟨a, fa, h2.to fun u qa => by rw [upd_ne fun z => fa (.inr z)]; exact qa⟩
       | gen f ds =>
         obtain ⟨a, xs, e, fa, q, z⟩ := h2
         refine ⟨a, xs, e, fa, by rw [upd_ne fun z => fa (.inr z)]; exact q, z.to (fun a xs fa qa => ⟨fa, by rw [upd_ne fun z => fa (.inr z)]; exact qa⟩) fun a xs qa => SqT.stay (h := qa) fun b u hu hb => ?_⟩
         rw [upd_ne fun z => ?_]
         · exact hb
         · obtain ⟨us, e1 | ⟨o', e1⟩⟩ := hu <;> (rw [z, hD5] at hb; cases hb; cases e1)
       | rd f ds =>
         obtain ⟨a, xs, e, fa, q, z⟩ := h2
         refine ⟨a, xs, e, fa, by rw [upd_ne fun z => fa (.inr z)]; exact q, z.to (fun a xs fa qa => ⟨fa, by rw [upd_ne fun z => fa (.inr z)]; exact qa⟩) fun a xs qa => SqT.stay (h := qa) fun b u hu hb => ?_⟩
         rw [upd_ne fun z => ?_]
         · exact hb
         · obtain ⟨us, e1 | ⟨o', e1⟩⟩ := hu <;> (rw [z, hD5] at hb; cases hb; cases e1)
       | exc C ns ds =>
         obtain ⟨xs, e, z⟩ := h2
         have mv : ∀ a u, unM (O.plus D (.lst ys)) a → H5 a = some u → unM (O.plus D (.lst (ys ++ [yv]))) a ∧ upd H5 D (.lst (ys ++ [yv])) a = some u := fun a u fa qa => ⟨fa, by rw [upd_ne fun z => fa (.inr z)]; exact qa⟩
         refine ⟨xs, e.to mv, z.to (fun a xs fa qa => mv a _ fa qa) fun a xs qa => SqT.stay (h := qa) fun b u hu hb => ?_⟩
         rw [upd_ne fun z => ?_]
         · exact hb
         · obtain ⟨us, e1 | ⟨o', e1⟩⟩ := hu <;> (rw [z, hD5] at hb; cases hb; cases e1)
       | thg T =>
         obtain ⟨W, hw, z⟩ := h2
         refine ⟨W, fun a w => ⟨(hw a w).1, let ⟨o, q⟩ := (hw a w).2; ⟨o, by rw [upd_ne fun z => (hw a w).1 (.inr z)]; exact q⟩⟩, T.to (fun a u fa qa => ⟨fa, by rw [upd_ne fun z => fa (.inr z)]; exact qa⟩) (fun a u w q => ⟨w, by rw [upd_ne fun z => (hw a w).1 (.inr z)]; exact q⟩) (fun b u hu hb => ?_) z⟩
         rw [upd_ne fun z => ?_]
         · exact hb
         · obtain ⟨us, e1 | ⟨o', e1⟩⟩ := hu <;> (rw [z, hD5] at hb; cases hb; cases e1)
       | thr T =>
         obtain ⟨W, hw, z⟩ := h2
         refine ⟨W, fun a w => ⟨(hw a w).1, let ⟨o, q⟩ := (hw a w).2; ⟨o, by rw [upd_ne fun z => (hw a w).1 (.inr z)]; exact q⟩⟩, T.to (fun a u fa qa => ⟨fa, by rw [upd_ne fun z => fa (.inr z)]; exact qa⟩) (fun a u w q => ⟨w, by rw [upd_ne fun z => (hw a w).1 (.inr z)]; exact q⟩) (fun b u hu hb => ?_) z⟩
         rw [upd_ne fun z => ?_]
         · exact hb
         · obtain ⟨us, e1 | ⟨o', e1⟩⟩ := hu <;> (rw [z, hD5] at hb; cases hb; cases e1)
     · have mv : ∀ {vs es}, IsAll K (fun a => ¬ (O.M a ∨ a = D)) H5 vs es → IsAll K (fun a => ¬ (O.M a ∨ a = D)) (upd H5 D (.lst (ys ++ [yv]))) vs es := fun z =>
         z.to (fun a xs fa qa => ⟨fa, by rw [upd_ne fun z => fa (.inr z)]; exact qa⟩) fun a xs qa => SqT.stay (h := qa) fun b u hu hb => by
           rw [upd_ne fun z => ?_]
           · exact hb
           · obtain ⟨us, e1 | ⟨o', e1⟩⟩ := hu <;> (rw [z, hD5] at hb; cases hb; cases e1)
       exact mv (a5.snoc iy)
 · left
   have e : i = ds.length := by omega
   subst e
   rw [List.drop_length] at go
   refine ⟨W.stop H2 _ kB tst (Nat.le_refl _), k _ H2 (.n acc) ?_ ⟨D, ys, rfl, W.st.s.free nM hD, hDy, hacc.weak fun a z m => z (.inl m)⟩ go⟩
   refine W.st.trans ⟨fun a o e n => kp a o e n, fun _ => S2.p.1, tst⟩
end
end L3
namespace L3
open PySem PySem.Spec
open PyProof.Rows hiding St
open L2
section
variable {K : PySem.W.Frag} {O : Ob}
theorem item_at {H1 H2 : Hp} {xs : List V} {ds : List PyData} {i : Nat} {d : PyData} (h : IsAll K (unM O) H1 xs ds) (hd : ds[i]? = some d) (t : TupStay H1 H2) (c : flat d = true ∨ ∀ a o, H1 a = some o → ¬ O.M a → H2 a = some o) :
   ∃ v, xs[i]? = some v ∧ Is K (fun a => ¬ O.M a ∧ (flat d = true ∨ ∃ o, H1 a = some o)) H2 v d := by
 obtain ⟨v, hv, iv⟩ := h.get hd
 refine ⟨v, hv, ?_⟩
 rcases c with c | c
 · exact Is.flat t iv c
 · exact iv.to (fun a ys f q => ⟨⟨f, .inr ⟨_, q⟩⟩, c a _ q f⟩) fun a ys q => SqT.stay (h := q) t
def R.isN : R → Bool
 | .n _ => true
 | .o _ => false
def srcL (f : DE) : DI := fun ρ Q => f ρ fun r => ∃ ds, r.d = .list ds ∧ Q r.isN ds
theorem src_list {t : TE} {f : DE} (h : ED K O t f) : SrcS K O (iList K t) (srcL f) := fun σ H ρ R Qd S hf k => by
 refine h σ H ρ _ _ S hf fun v H1 r st o1 ⟨ds, e, q⟩ => ?_
 have i1 := o1.is S.ok S.p
 rw [e] at i1
 cases i1 with
 | list f0 ha hs =>
   rename_i a xs
   refine ⟨a, rfl, ⟨xs, .of ha⟩, k (Itl K a) H1 ds (fun b => b = a) r.isN ⟨st, fun b hb => by subst hb; exact ⟨f0, _, ha⟩, fun H2 i kb _ hi => ?_, fun H2 i d kb t2 hd c => ?_⟩ (fun z b hb => ?_) q⟩
   · exact ⟨xs, .of (kb a _ rfl ha), by rw [hs.length]; exact hi⟩
   · obtain ⟨w, hw, iw⟩ := item_at (O := O) hs hd t2 c
     have q2 : SqL K H2 a xs := .of (kb a _ rfl ha)
     refine ⟨⟨xs, w, q2, hw⟩, fun x H3 ⟨e3, y⟩ => ?_⟩
     subst e3
     have := y xs q2
     rw [hw] at this
     cases this
     exact ⟨Same.refl _, iw⟩
   · subst hb
     cases r with
     | o d => cases z
     | n es =>
       obtain ⟨a', xs', e', hn, _⟩ := o1
       cases e'
       exact hn
def srcT (f : DE) : DI := fun ρ Q => f ρ fun r => ∃ ds, r.d = .tuple ds ∧ Q true ds
theorem src_tup {t : TE} {f : DE} (h : ED K O t f) : SrcS K O (iTup K t) (srcT f) := fun σ H ρ R Qd S hf k => by
 refine h σ H ρ _ _ S hf fun v H1 r st o1 ⟨ds, e, q⟩ => ?_
 have i1 := o1.is S.ok S.p
 rw [e] at i1
 cases i1 with
 | tuple ha hs =>
   rename_i a xs
   refine ⟨a, rfl, ⟨xs, ha⟩, k (Itt K a) H1 ds (fun _ => False) true ⟨st, fun b hb => hb.elim, fun H2 i kb t2 hi => ?_, fun H2 i d kb t2 hd c => ?_⟩ (fun z b hb => hb.elim) q⟩
   · exact ⟨xs, SqT.stay t2 ha, by rw [hs.length]; exact hi⟩
   · obtain ⟨w, hw, iw⟩ := item_at (O := O) hs hd t2 c
     have q2 : SqT K H2 a xs := SqT.stay t2 ha
     refine ⟨⟨xs, w, q2, hw⟩, fun x H3 ⟨e3, y⟩ => ?_⟩
     subst e3
     have := y xs q2
     rw [hw] at this
     cases this
     exact ⟨Same.refl _, iw⟩
def numsD (lo : Int) (n : Nat) : List PyData := (List.range n).map fun k => .int (lo + (k : Nat))
theorem numsD_get {lo : Int} {n i : Nat} {d : PyData} (h : (numsD lo n)[i]? = some d) : i < n ∧ d = .int (lo + (i : Nat)) := by
 unfold numsD at h
 rw [List.getElem?_map] at h
 by_cases hi : i < n
 · rw [List.getElem?_range hi] at h
   cases h
   exact ⟨hi, rfl⟩
 · rw [List.getElem?_eq_none (by simpa using hi)] at h
   cases h
theorem walk_ints {H H1 : Hp} (st : Stp O H H1) (lo : Int) (n : Nat) : Walk K O H H1 (Itr lo n) (numsD lo n) (fun _ => False) :=
 ⟨st, fun b hb => hb.elim, fun H2 i _ _ hi => (show n ≤ i by simpa [numsD] using hi), fun H2 i d _ t2 hd c => by
   obtain ⟨hi, rfl⟩ := numsD_get hd
   refine ⟨hi, fun x H3 ⟨e3, y⟩ => ?_⟩
   subst e3 y
   exact ⟨Same.refl _, .int _⟩⟩
def srcR1 (g : DA) : DI := fun ρ Q => g ρ fun ds => ∃ j : Int, ds = [.int j] ∧ -(2 ^ 62) ≤ j ∧ j < 2 ^ 62 ∧ Q true (numsD 0 j.toNat)
theorem src_rng1 {t : TA} {g : DA} (h : AD K O t g) : SrcS K O (iRng1 t) (srcR1 g) := fun σ H ρ R Qd S hf k => by
 refine h σ H ρ _ _ S hf fun vs H1 ds st is ⟨j, e, b1, b2, q⟩ => ?_
 subst e
 cases is with
 | cons i0 is =>
   cases is
   cases i0
   exact ⟨j, rfl, b1, b2, k _ H1 _ _ true (walk_ints st 0 j.toNat) (fun _ _ hb => hb.elim) q⟩
end
def sg (c : Nat) : Str := ⟨#[c]⟩
def sgs (x : Str) : List PyData := x.cps.toList.map fun c => .str (sg c)
structure DEnds where
 nx : DSt → Prop
 rt : R → Prop
 bk : DSt → Prop := fun _ => False
 ct : DSt → Prop := fun _ => False
abbrev DS := DEnds → DSt → Prop
def unO (O : Ob) (A : Nat → Addr → Prop) : Addr → Prop := fun a => ¬ O.M a ∧ ∀ j, ¬ A j a
def OwnO (o : HO) : Prop := ∀ us, o ≠ .tup us ∧ ∀ o', o ≠ .frz o' (.tup us)
theorem OwnO.lst {xs : List V} : OwnO (.lst xs) := fun _ => ⟨fun z => (nomatch z), fun _ z => (nomatch z)⟩
def RepV (K : PySem.W.Frag) (O : Ob) (A : Nat → Addr → Prop) (H : Hp) (i : Nat) (v : V) : DV → Prop
 | .im d => Is K (unO O A) H v d
 | .own ds => ∃ a xs, v = .ref a ∧ A i a ∧ H a = some (.lst xs) ∧ IsAll K (unO O A) H xs ds
 | .ob => v = O.v
 | .scr n => IsS K (unO O A) H v n
 | .dct ks => ∃ a, A i a ∧ DkAt H v a ks
 | .gen f ds => ∃ a xs, v = .ref a ∧ A i a ∧ H a = some (f a xs) ∧ IsAll K (unO O A) H xs ds
 | .rd f ds => ∃ a xs, v = .ref a ∧ unO O A a ∧ H a = some (f a xs) ∧ IsAll K (unO O A) H xs ds
 | .exc C ns ds => ∃ xs, ExAt (unO O A) H v C ns xs ∧ IsAll K (unO O A) H xs ds
 | .thg T => T.R K (unO O A) (A i) H v
 | .thr T => ∃ W : Addr → Prop, (∀ a, W a → unO O A a ∧ ∃ o, H a = some o) ∧ T.R K (unO O A) W H v
structure Rep (K : PySem.W.Frag) (O : Ob) (H₀ : Hp) (A : Nat → Addr → Prop) (H : Hp) (σ : St) (ρ : DSt) : Prop where
 ok : O.Ok
 p : O.P H
 p0 : O.P H₀
 st : Stp O H₀ H
 dis : ∀ i j a, A i a → A j a → i = j
 own : ∀ i a, A i a → H₀ a = none ∧ (∃ o, H a = some o ∧ OwnO o) ∧ ¬ O.M a
 at_ : ∀ (i : Nat) r, ρ[i]? = some (some r) → ∃ v, σ[i]? = some (some v) ∧ RepV K O A H i v r
 len : ρ.length = σ.length
def Frm (O : Ob) (A : Nat → Addr → Prop) (H : Hp) (A' : Nat → Addr → Prop) (H' : Hp) : Prop := ∀ a o, H a = some o → unO O A a → H' a = some o ∧ unO O A' a
theorem Frm.refl {O : Ob} {A : Nat → Addr → Prop} {H : Hp} : Frm O A H A H := fun _ _ h u => ⟨h, u⟩
theorem Frm.trans {O : Ob} {A A1 A2 : Nat → Addr → Prop} {H H1 H2 : Hp} (a : Frm O A H A1 H1) (b : Frm O A1 H1 A2 H2) : Frm O A H A2 H2 := fun c o h u => let ⟨h1, u1⟩ := a c o h u; b c o h1 u1
structure Post (K : PySem.W.Frag) (O : Ob) (H₀ : Hp) (A : Nat → Addr → Prop) (H : Hp) (D : Ends) (Dd : DEnds) : Prop where
 nx : ∀ A' σ' H' ρ', Rep K O H₀ A' H' σ' ρ' → Frm O A H A' H' → Dd.nx ρ' → D.nx σ' H'
 bk : ∀ A' σ' H' ρ', Rep K O H₀ A' H' σ' ρ' → Frm O A H A' H' → Dd.bk ρ' → D.bk σ' H'
 ct : ∀ A' σ' H' ρ', Rep K O H₀ A' H' σ' ρ' → Frm O A H A' H' → Dd.ct ρ' → D.ct σ' H'
 rt : ∀ H' v r, Stp O H₀ H' → Out K O H₀ H' v r → Dd.rt r → D.rt v H'
def SD (K : PySem.W.Frag) (O : Ob) (t : TS) (g : DS) : Prop :=
 ∀ (H₀ : Hp) (A : Nat → Addr → Prop) (σ : St) (H : Hp) (ρ : DSt) (D : Ends) (Dd : DEnds), Rep K O H₀ A H σ ρ → g Dd ρ → Post K O H₀ A H D Dd → t D σ H
section
variable {K : PySem.W.Frag} {O : Ob} {H₀ H H' : Hp} {A : Nat → Addr → Prop} {σ : St} {ρ : DSt}
theorem Rep.seen (r : Rep K O H₀ A H σ ρ) : Seen K O H σ ρ := by
 refine ⟨r.ok, r.p, fun i x e => ?_, r.len⟩
 obtain ⟨v, hv, h⟩ := r.at_ i x e
 refine ⟨v, hv, ?_⟩
 cases x with
 | im d => exact h.weak fun a u => u.1
 | own ds =>
   obtain ⟨a, xs, rfl, ha, hl, hs⟩ := h
   exact .list (r.own i a ha).2.2 hl (hs.weak fun a u => u.1)
 | ob => exact h
 | scr n => exact IsS.to (fun a u f q => ⟨f.1, q⟩) h
 | dct ks => obtain ⟨a, ha, h⟩ := h; exact ⟨a, (r.own i a ha).2.2, h⟩
 | gen f ds => obtain ⟨a, xs, e, ha, q, z⟩ := h; exact ⟨a, xs, e, (r.own i a ha).2.2, q, z.weak fun a u => u.1⟩
 | rd f ds => obtain ⟨a, xs, e, ha, q, z⟩ := h; exact ⟨a, xs, e, ha.1, q, z.weak fun a u => u.1⟩
 | exc C ns ds => obtain ⟨xs, e, z⟩ := h; exact ⟨xs, e.to fun a u f q => ⟨f.1, q⟩, z.weak fun a u => u.1⟩
 | thg T => exact ⟨A i, fun a w => ⟨(r.own i a w).2.2, let ⟨o, q, _⟩ := (r.own i a w).2.1; ⟨o, q⟩⟩, T.to (fun a u f q => ⟨f.1, q⟩) (fun a u w q => ⟨w, q⟩) (TupStay.refl _) h⟩
 | thr T => obtain ⟨W, hw, z⟩ := h; exact ⟨W, fun a w => ⟨(hw a w).1.1, (hw a w).2⟩, T.to (fun a u f q => ⟨f.1, q⟩) (fun a u w q => ⟨w, q⟩) (TupStay.refl _) z⟩
theorem Rep.stp (r : Rep K O H₀ A H σ ρ) (s : Stp O H H') : Rep K O H₀ A H' σ ρ := by
 refine ⟨r.ok, s.p r.p, r.p0, r.st.trans s, r.dis, fun i a ha => ?_, fun i x e => ?_, r.len⟩
 · obtain ⟨h0, ⟨xs, hx, ho⟩, hm⟩ := r.own i a ha
   exact ⟨h0, ⟨xs, s.s a _ hx hm, ho⟩, hm⟩
 · obtain ⟨v, hv, h⟩ := r.at_ i x e
   refine ⟨v, hv, ?_⟩
   cases x with
   | im d => exact Is.stp s (fun _ z => z) (fun _ z => z.1) h
   | own ds =>
     obtain ⟨a, xs, rfl, ha, hl, hs⟩ := h
     exact ⟨a, xs, rfl, ha, s.s a _ hl (r.own i a ha).2.2, hs.stp s (fun _ z => z) (fun _ z => z.1)⟩
   | ob => exact h
   | scr n => exact IsS.to (fun a u f q => ⟨f, s.s a u q f.1⟩) h
   | dct ks => obtain ⟨a, ha, h⟩ := h; exact ⟨a, ha, h.to fun u q => s.s a u q (r.own i a ha).2.2⟩
   | gen f ds => obtain ⟨a, xs, e, ha, q, z⟩ := h; exact ⟨a, xs, e, ha, s.s a _ q (r.own i a ha).2.2, z.stp s (fun _ z => z) (fun _ z => z.1)⟩
   | rd f ds => obtain ⟨a, xs, e, ha, q, z⟩ := h; exact ⟨a, xs, e, ha, s.s a _ q ha.1, z.stp s (fun _ z => z) (fun _ z => z.1)⟩
   | exc C ns ds => obtain ⟨xs, e, z⟩ := h; exact ⟨xs, e.to fun a u f q => ⟨f, s.s a u q f.1⟩, z.stp s (fun _ z => z) (fun _ z => z.1)⟩
   | thg T => exact T.to (fun a u f q => ⟨f, s.s a u q f.1⟩) (fun a u w q => ⟨w, s.s a u q (r.own i a w).2.2⟩) s.t h
   | thr T => obtain ⟨W, hw, z⟩ := h; exact ⟨W, fun a w => let ⟨f, o, q⟩ := hw a w; ⟨f, o, s.s a o q f.1⟩, T.to (fun a u f q => ⟨f, s.s a u q f.1⟩) (fun a u w q => ⟨w, s.s a u q (hw a w).1.1⟩) s.t z⟩
theorem Frm.stp (s : Stp O H H') : Frm O A H A H' := fun a o e u => ⟨s.s a o e u.1, u⟩
theorem Rep.setIm {i : Nat} {v : V} {d : PyData} (r : Rep K O H₀ A H σ ρ) (h : Is K (unO O A) H v d) : Rep K O H₀ (fun j a => j ≠ i ∧ A j a) H (σ.set i (some v)) (ρ.set i (some (.im d))) := by
 have un : ∀ a, unO O A a → unO O (fun j a => j ≠ i ∧ A j a) a := fun a u => ⟨u.1, fun j z => u.2 j z.2⟩
 refine ⟨r.ok, r.p, r.p0, r.st, fun j k a x y => r.dis j k a x.2 y.2, fun j a x => r.own j a x.2, fun j x e => ?_, by rw [List.length_set, List.length_set]; exact r.len⟩
 by_cases hj : i = j
 · subst hj
   have hi : i < ρ.length := by
     rcases Nat.lt_or_ge i ρ.length with z | z
     · exact z
     · rw [List.getElem?_eq_none (by simpa using z)] at e; cases e
   rw [List.getElem?_set_self hi] at e
   cases e
   exact ⟨v, List.getElem?_set_self (by have := r.len; omega), h.weak un⟩
 · rw [List.getElem?_set_ne hj] at e
   obtain ⟨w, h1, h2⟩ := r.at_ j x e
   refine ⟨w, by rw [List.getElem?_set_ne hj]; exact h1, ?_⟩
   cases x with
   | im d => exact h2.weak un
   | own ds =>
     obtain ⟨a, xs, rfl, ha, hl, hs⟩ := h2
     exact ⟨a, xs, rfl, ⟨fun z => hj z.symm, ha⟩, hl, hs.weak un⟩
   | ob => exact h2
   | scr n => exact IsS.to (fun a u f q => ⟨un a f, q⟩) h2
   | dct ks => obtain ⟨a, ha, h2⟩ := h2; exact ⟨a, ⟨fun z => hj z.symm, ha⟩, h2⟩
   | gen f ds => obtain ⟨a, xs, e, ha, q, z⟩ := h2; exact ⟨a, xs, e, ⟨fun z => hj z.symm, ha⟩, q, z.weak un⟩
   | rd f ds => obtain ⟨a, xs, e, ha, q, z⟩ := h2; exact ⟨a, xs, e, un a ha, q, z.weak un⟩
   | exc C ns ds => obtain ⟨xs, e, z⟩ := h2; exact ⟨xs, e.to fun a u f q => ⟨un a f, q⟩, z.weak un⟩
   | thg T => exact T.to (fun a u f q => ⟨un a f, q⟩) (fun a u w q => ⟨⟨fun z => hj z.symm, w⟩, q⟩) (TupStay.refl _) h2
   | thr T => obtain ⟨W, hw, z⟩ := h2; exact ⟨W, fun a w => ⟨un a (hw a w).1, (hw a w).2⟩, T.to (fun a u f q => ⟨un a f, q⟩) (fun a u w q => ⟨w, q⟩) (TupStay.refl _) z⟩
theorem Rep.setOwn {i : Nat} {a : Addr} {xs : List V} {ds : List PyData} (r : Rep K O H₀ A H σ ρ) (s : Stp O H H') (hn : H a = none) (hl : H' a = some (.lst xs)) (hf : IsAll K (unM O) H' xs ds) (fl : flats ds = true) :
   Rep K O H₀ (fun j b => (j ≠ i ∧ A j b) ∨ (j = i ∧ b = a)) H' (σ.set i (some (.ref a))) (ρ.set i (some (.own ds))) := by
 have hm : ¬ O.M a := fun m => by obtain ⟨o, z⟩ := r.ok.here H a r.p m; rw [hn] at z; cases z
 have new : ∀ j, ¬ A j a := fun j z => by obtain ⟨_, ⟨ys, q, _⟩, _⟩ := r.own j a z; rw [hn] at q; cases q
 have un : ∀ b o, H b = some o → unO O A b → unO O (fun j b => (j ≠ i ∧ A j b) ∨ (j = i ∧ b = a)) b := fun b o e u => ⟨u.1, fun j z => by
   rcases z with z | z
   · exact u.2 j z.2
   · rw [z.2, hn] at e; cases e⟩
 have mv : ∀ {v d}, Is K (unO O A) H v d → Is K (unO O (fun j b => (j ≠ i ∧ A j b) ∨ (j = i ∧ b = a))) H' v d := fun z =>
   z.to (fun b ys f q => ⟨un b _ q f, s.s b _ q f.1⟩) fun b ys q => SqT.stay (h := q) s.t
 have mvs : ∀ {v d}, IsAll K (unO O A) H v d → IsAll K (unO O (fun j b => (j ≠ i ∧ A j b) ∨ (j = i ∧ b = a))) H' v d := fun z =>
   z.to (fun b ys f q => ⟨un b _ q f, s.s b _ q f.1⟩) fun b ys q => SqT.stay (h := q) s.t
 refine ⟨r.ok, s.p r.p, r.p0, r.st.trans s, fun j k b x y => ?_, fun j b x => ?_, fun j x e => ?_, by rw [List.length_set, List.length_set]; exact r.len⟩
 · rcases x with x | x <;> rcases y with y | y
   · exact r.dis j k b x.2 y.2
   · exact absurd (y.2 ▸ x.2) (new j)
   · exact absurd (x.2 ▸ y.2) (new k)
   · exact x.1.trans y.1.symm
 · rcases x with x | x
   · obtain ⟨h0, ⟨ys, q, ho⟩, m⟩ := r.own j b x.2
     exact ⟨h0, ⟨ys, s.s b _ q m, ho⟩, m⟩
   · obtain ⟨rfl, rfl⟩ := x
     exact ⟨r.st.s.free hm hn, ⟨_, hl, .lst⟩, hm⟩
 · by_cases hj : i = j
   · subst hj
     have hi : i < ρ.length := by
       rcases Nat.lt_or_ge i ρ.length with z | z
       · exact z
       · rw [List.getElem?_eq_none (by simpa using z)] at e; cases e
     rw [List.getElem?_set_self hi] at e
     cases e
     exact ⟨.ref a, List.getElem?_set_self (by have := r.len; omega), a, xs, rfl, .inr ⟨rfl, rfl⟩, hl, IsAll.flats (TupStay.refl H') hf fl⟩
   · rw [List.getElem?_set_ne hj] at e
     obtain ⟨w, h1, h2⟩ := r.at_ j x e
     refine ⟨w, by rw [List.getElem?_set_ne hj]; exact h1, ?_⟩
     cases x with
     | im d => exact mv h2
     | own es =>
       obtain ⟨b, ys, rfl, hb, hlb, hs⟩ := h2
       exact ⟨b, ys, rfl, .inl ⟨fun z => hj z.symm, hb⟩, s.s b _ hlb (r.own j b hb).2.2, mvs hs⟩
     | ob => exact h2
     | scr n => exact IsS.to (fun b u f q => ⟨un b u q f, s.s b u q f.1⟩) h2
     | dct ks => obtain ⟨b, hb, h2⟩ := h2; exact ⟨b, .inl ⟨fun z => hj z.symm, hb⟩, h2.to fun u q => s.s b u q (r.own j b hb).2.2⟩
     | gen f ds => obtain ⟨b, xs, e, hb, q, z⟩ := h2; exact ⟨b, xs, e, .inl ⟨fun z => hj z.symm, hb⟩, s.s b _ q (r.own j b hb).2.2, mvs z⟩
     | rd f ds => obtain ⟨b, xs, e, hb, q, z⟩ := h2; exact ⟨b, xs, e, un b _ q hb, s.s b _ q hb.1, mvs z⟩
     | exc C ns ds => obtain ⟨xs, e, z⟩ := h2; exact ⟨xs, e.to fun b u f q => ⟨un b _ q f, s.s b _ q f.1⟩, mvs z⟩
     | thg T => exact T.to (fun b u f q => ⟨un b u q f, s.s b u q f.1⟩) (fun b u w q => ⟨.inl ⟨fun z => hj z.symm, w⟩, s.s b u q (r.own j b w).2.2⟩) s.t h2
     | thr T => obtain ⟨W, hw, z⟩ := h2; exact ⟨W, fun b w => let ⟨f, o, q⟩ := hw b w; ⟨un b o q f, o, s.s b o q f.1⟩, T.to (fun b u f q => ⟨un b u q f, s.s b u q f.1⟩) (fun b u w q => ⟨w, s.s b u q (hw b w).1.1⟩) s.t z⟩
theorem Frm.setIm {i : Nat} (s : Stp O H H') : Frm O A H (fun j a => j ≠ i ∧ A j a) H' := fun a o e u => ⟨s.s a o e u.1, u.1, fun j z => u.2 j z.2⟩
theorem Frm.setOwn {i : Nat} {a : Addr} (s : Stp O H H') (hn : H a = none) : Frm O A H (fun j b => (j ≠ i ∧ A j b) ∨ (j = i ∧ b = a)) H' := fun b o e u => ⟨s.s b o e u.1, u.1, fun j z => by
 rcases z with z | z
 · exact u.2 j z.2
 · rw [z.2, hn] at e; cases e⟩
theorem Rep.change {i : Nat} {a : Addr} {ys : List V} {ds es : List PyData} (r : Rep K O H₀ A H σ ρ) (e : ρ[i]? = some (some (.own ds))) (hv : σ[i]? = some (some (.ref a))) (ha : A i a) (hs : IsAll K (unO O A) H ys es) :
   Rep K O H₀ A (upd H a (.lst ys)) σ (ρ.set i (some (.own es))) := by
 obtain ⟨h0, ⟨oo, hz, hoo⟩, hm⟩ := r.own i a ha
 have ts : TupStay H (upd H a (.lst ys)) := fun b u hu hb => by
   rw [upd_ne fun z => ?_]
   · exact hb
   · rw [z, hz] at hb
     cases hb
     obtain ⟨us, e1 | ⟨o', e1⟩⟩ := hu
     · exact absurd e1 (hoo us).1
     · exact absurd e1 ((hoo us).2 o')
 have mv : ∀ {v d}, Is K (unO O A) H v d → Is K (unO O A) (upd H a (.lst ys)) v d := fun z => z.to (fun b us f q => ⟨f, by rw [upd_ne (show b ≠ a from fun w => f.2 i (by rw [w]; exact ha))]; exact q⟩) fun b us q => SqT.stay (h := q) ts
 have mvs : ∀ {v d}, IsAll K (unO O A) H v d → IsAll K (unO O A) (upd H a (.lst ys)) v d := fun z => z.to (fun b us f q => ⟨f, by rw [upd_ne (show b ≠ a from fun w => f.2 i (by rw [w]; exact ha))]; exact q⟩) fun b us q => SqT.stay (h := q) ts
 have pp : O.P (upd H a (.lst ys)) := r.ok.loc H _ (fun b m => upd_ne fun z => hm (z ▸ m)) r.p
 refine ⟨r.ok, pp, r.p0, ⟨fun b o hb n => ?_, fun _ => pp, fun b u hu hb => ts b u hu (r.st.t b u hu hb)⟩, r.dis, fun j b hb => ?_, fun j x ej => ?_, by rw [List.length_set]; exact r.len⟩
 · rw [upd_ne fun z => ?_]
   · exact r.st.s b o hb n
   · rw [z, h0] at hb; cases hb
 · obtain ⟨k0, ⟨us, k1, ko⟩, k2⟩ := r.own j b hb
   by_cases hba : b = a
   · subst hba; exact ⟨k0, ⟨_, upd_same, .lst⟩, k2⟩
   · exact ⟨k0, ⟨us, by rw [upd_ne hba]; exact k1, ko⟩, k2⟩
 · by_cases hj : i = j
   · subst hj
     have hi : i < ρ.length := (List.getElem?_eq_some_iff.mp e).1
     rw [List.getElem?_set_self hi] at ej
     cases ej
     exact ⟨.ref a, hv, a, ys, rfl, ha, upd_same, mvs hs⟩
   · rw [List.getElem?_set_ne hj] at ej
     obtain ⟨w, h1, h2⟩ := r.at_ j x ej
     refine ⟨w, h1, ?_⟩
     cases x with
     | im d => exact mv h2
     | own fs =>
       obtain ⟨b, us, rfl, hb, hlb, hs2⟩ := h2
       exact ⟨b, us, rfl, hb, by rw [upd_ne (show b ≠ a from fun z => hj (r.dis i j a ha (by rw [← z]; exact hb)))]; exact hlb, mvs hs2⟩
     | ob => exact h2
     | scr n => exact IsS.to (fun b u f q => ⟨f, by rw [upd_ne (show b ≠ a from fun w => f.2 i (by rw [w]; exact ha))]; exact q⟩) h2
     | dct ks => obtain ⟨b, hb, h2⟩ := h2; exact ⟨b, hb, h2.to fun u q => by rw [upd_ne (show b ≠ a from fun z => hj (r.dis i j a ha (by rw [← z]; exact hb)))]; exact q⟩
     | gen f ds => obtain ⟨b, xs, e, hb, q, z⟩ := h2; exact ⟨b, xs, e, hb, by rw [upd_ne (show b ≠ a from fun z => hj (r.dis i j a ha (by rw [← z]; exact hb)))]; exact q, mvs z⟩
     | rd f ds => obtain ⟨b, xs, e, hb, q, z⟩ := h2; exact ⟨b, xs, e, hb, by rw [upd_ne (show b ≠ a from fun w => hb.2 i (by rw [w]; exact ha))]; exact q, mvs z⟩
     | exc C ns ds => obtain ⟨xs, e, z⟩ := h2; exact ⟨xs, e.to fun b u f q => ⟨f, by rw [upd_ne (show b ≠ a from fun w => f.2 i (by rw [w]; exact ha))]; exact q⟩, mvs z⟩
     | thg T => exact T.to (fun b u f q => ⟨f, by rw [upd_ne (show b ≠ a from fun w => f.2 i (by rw [w]; exact ha))]; exact q⟩) (fun b u w q => ⟨w, by rw [upd_ne (show b ≠ a from fun z => hj (r.dis i j a ha (by rw [← z]; exact w)))]; exact q⟩) ts h2
     | thr T => obtain ⟨W, hw, z⟩ := h2; exact ⟨W, fun b w => let ⟨f, o, q⟩ := hw b w; ⟨f, o, by rw [upd_ne (show b ≠ a from fun w => f.2 i (by rw [w]; exact ha))]; exact q⟩, T.to (fun b u f q => ⟨f, by rw [upd_ne (show b ≠ a from fun w => f.2 i (by rw [w]; exact ha))]; exact q⟩) (fun b u w q => ⟨w, by rw [upd_ne (show b ≠ a from fun y => (hw b w).1.2 i (by rw [y]; exact ha))]; exact q⟩) ts z⟩
theorem Frm.change {i : Nat} {a : Addr} {o : HO} (ha : A i a) : Frm O A H A (upd H a o) := fun b u e n => ⟨by rw [upd_ne (show b ≠ a from fun z => n.2 i (by rw [z]; exact ha))]; exact e, n⟩
end
section
variable {K : PySem.W.Frag} {O : Ob}
theorem Post.frm {H₀ : Hp} {A A1 : Nat → Addr → Prop} {H H1 : Hp} {D : Ends} {Dd : DEnds} (P : Post K O H₀ A H D Dd) (f : Frm O A H A1 H1) : Post K O H₀ A1 H1 D Dd :=
 ⟨fun A' σ' H' ρ' r g => P.nx A' σ' H' ρ' r (f.trans g), fun A' σ' H' ρ' r g => P.bk A' σ' H' ρ' r (f.trans g), fun A' σ' H' ρ' r g => P.ct A' σ' H' ρ' r (f.trans g), P.rt⟩
def seqD (g k : DS) : DS := fun Dd ρ => g { Dd with nx := k Dd } ρ
theorem sd_seq {t u : TS} {g k : DS} (h : SD K O t g) (h' : SD K O u k) : SD K O (tSeq t u) (seqD g k) := fun H₀ A σ H ρ D Dd r q P =>
 h H₀ A σ H ρ _ _ r q ⟨fun A' σ' H' ρ' r' f q' => h' H₀ A' σ' H' ρ' D Dd r' q' (P.frm f), P.bk, P.ct, P.rt⟩
theorem sd_next : SD K O tNext (fun Dd ρ => Dd.nx ρ) := fun H₀ A σ H ρ D Dd r q P => P.nx A σ H ρ r .refl q
def ifS (c : DT) (g k : DS) : DS := fun Dd ρ => c ρ fun b => if b = true then g Dd ρ else k Dd ρ
theorem sd_if {c : TT} {t u : TS} {fc : DT} {g k : DS} (hc : TD K O c fc) (h : SD K O t g) (h' : SD K O u k) : SD K O (tIfS c t u) (ifS fc g k) := fun H₀ A σ H ρ D Dd r q P => by
 refine hc σ H ρ _ _ r.seen q fun b H1 s1 q1 => ?_
 cases b with
 | true => exact h H₀ A σ H1 ρ D Dd (r.stp s1) q1 (P.frm (.stp s1))
 | false => exact h' H₀ A σ H1 ρ D Dd (r.stp s1) q1 (P.frm (.stp s1))
def retS (f : DE) : DS := fun Dd ρ => f ρ Dd.rt
theorem sd_ret {t : TE} {f : DE} (h : ED K O t f) : SD K O (tRet t) (retS f) := fun H₀ A σ H ρ D Dd r q P => by
 refine h σ H ρ _ _ r.seen q fun v H1 x s1 o1 q1 => P.rt H1 v x (r.st.trans s1) (o1.ahead r.ok r.p0 r.st) q1
def retO (i : Nat) : DS := fun Dd ρ => ∃ ds, ρ[i]? = some (some (.own ds)) ∧ Dd.rt (.n ds)
theorem sd_retOwn {i : Nat} : SD K O (tRet (tVar i)) (retO i) := fun H₀ A σ H ρ D Dd r q P => by
 obtain ⟨ds, e, q⟩ := q
 obtain ⟨v, hv, a, xs, rfl, ha, hl, hs⟩ := r.at_ i _ e
 exact ⟨_, hv, P.rt H _ (.n ds) r.st ⟨a, xs, rfl, (r.own i a ha).1, hl, hs.weak fun b u => u.1⟩ q⟩
def asgS (i : Nat) (f : DE) : DS := fun Dd ρ => f ρ fun r => match r with
 | .o d => flat d = true ∧ Dd.nx (ρ.set i (some (.im d)))
 | .n ds => flats ds = true ∧ Dd.nx (ρ.set i (some (.own ds)))
theorem sd_asg {i : Nat} {t : TE} {f : DE} (h : ED K O t f) : SD K O (tAsg t (gName i)) (asgS i f) := fun H₀ A σ H ρ D Dd r q P => by
 refine h σ H ρ _ _ r.seen q fun v H1 x s1 o1 q1 => ?_
 cases x with
 | o d =>
   obtain ⟨fl, q1⟩ := q1
   exact P.nx _ _ H1 _ ((r.stp s1).setIm (Is.flat (TupStay.refl H1) o1 fl)) (.setIm s1) q1
 | n ds =>
   obtain ⟨fl, q1⟩ := q1
   obtain ⟨a, xs, rfl, hn, hl, hs⟩ := o1
   exact P.nx _ _ H1 _ (r.setOwn s1 hn hl hs fl) (.setOwn s1 hn) q1
def appS (i : Nat) (f : DE) : DS := fun Dd ρ => ∃ ds, ρ[i]? = some (some (.own ds)) ∧ f ρ fun r => flat r.d = true ∧ ds.length < sizeLine ∧ Dd.nx (ρ.set i (some (.own (ds ++ [r.d]))))
theorem sd_append {i : Nat} {t : TE} {f : DE} (h : ED K O t f) : SD K O (tDrop (tBM K "list" rAppend (tVar i) (tCons t tNil))) (appS i f) := fun H₀ A σ H ρ D Dd r q P => by
 obtain ⟨ds, e, q⟩ := q
 obtain ⟨v, hv, a, xs, rfl, ha, hl, hs⟩ := r.at_ i _ e
 refine ⟨_, hv, ?_⟩
 refine ⟨.inl ⟨rfl, xs, .of hl⟩, ?_⟩
 refine h σ H ρ _ _ r.seen q fun w H1 x s1 o1 ⟨fl, hz, q1⟩ => ?_
 have r1 := r.stp s1
 obtain ⟨v1, hv1, a1, xs1, e1, ha1, hl1, hs1⟩ := r1.at_ i _ e
 rw [hv] at hv1
 cases hv1
 cases e1
 refine ⟨a, xs1, w, rfl, rfl, hl1, by rw [hs1.length]; exact hz, ?_⟩
 have iw : Is K (unO O A) H1 w x.d := Is.flat (TupStay.refl H1) (o1.is r.ok r.p) fl
 exact P.nx A σ _ _ (r1.change e hv ha (hs1.snoc iw)) ((Frm.stp s1).trans (.change ha)) q1
end
end L3
namespace L3
open PySem PySem.Spec
open PyProof.Rows hiding St
open L2
def GR (K : PySem.W.Frag) (O : Ob) (t : TG) (g : DG) : Prop :=
 ∀ (H₀ : Hp) (A : Nat → Addr → Prop) (σ : St) (H : Hp) (ρ : DSt) (v : V) (d : PyData) (Q : St → Hp → Prop) (Qd : DSt → Prop), Rep K O H₀ A H σ ρ → flat d = true → Is K (unO O A) H v d → g d ρ Qd →
   (∀ A' σ' ρ', Rep K O H₀ A' H σ' ρ' → Frm O A H A' H → Qd ρ' → Q σ' H) → t v σ H Q
section
variable {K : PySem.W.Frag} {O : Ob}
theorem gr_name {i : Nat} : GR K O (gName i) (gN i) := fun H₀ A σ H ρ v d Q Qd r _ h q k => k _ _ _ (r.setIm h) (.setIm (.refl _ _)) q
def GRs (K : PySem.W.Frag) (O : Ob) (t : TGs) (is : List Nat) : Prop :=
 ∀ (H₀ : Hp) (A : Nat → Addr → Prop) (σ : St) (H : Hp) (ρ : DSt) (vs : List V) (ds : List PyData) (Q : St → Hp → Prop) (Qd : DSt → Prop), Rep K O H₀ A H σ ρ → flats ds = true → IsAll K (unO O A) H vs ds → gTD is ds ρ Qd →
   (∀ A' σ' ρ', Rep K O H₀ A' H σ' ρ' → Frm O A H A' H → Qd ρ' → Q σ' H) → t vs σ H Q
theorem grs_nil : GRs K O gNil [] := fun H₀ A σ H ρ vs ds Q Qd r _ i h k => by
 cases i with
 | nil => exact ⟨rfl, k A σ ρ r .refl h⟩
 | cons _ _ => exact h.elim
theorem grs_cons {i : Nat} {is : List Nat} {t : TGs} (ht : GRs K O t is) : GRs K O (gCons (gName i) t) (i :: is) := fun H₀ A σ H ρ vs ds Q Qd r fl h q k => by
 cases h with
 | nil => exact q.elim
 | cons h1 h2 =>
   rw [flats, Bool.and_eq_true] at fl
   have f1 : Frm O A H (fun j a => j ≠ i ∧ A j a) H := .setIm (.refl _ _)
   refine ⟨_, _, rfl, ht _ _ _ H _ _ _ _ _ (r.setIm h1) fl.2 (IsAll.flats (TupStay.refl H) h2 fl.2) q fun A' σ' ρ' r' f q' => k A' σ' ρ' r' (f1.trans f) q'⟩
theorem gr_tup {is : List Nat} {t : TGs} {n : Nat} (hn : is.length = n) (ht : GRs K O t is) : GR K O (gTup K n t) (gT is) := fun H₀ A σ H ρ v d Q Qd r fl i h k => by
 obtain ⟨ds, rfl, h⟩ := h
 cases i with
 | tuple q is' => exact ⟨_, _, rfl, q, by rw [is'.length, gTD_len h]; exact hn, ht H₀ A σ H ρ _ ds Q Qd r (by simpa [flat] using fl) is' h k⟩
def forGo (g : DG) (gb : DS) (Dd : DEnds) : List PyData → DSt → Prop
 | [], ρ => Dd.nx ρ
 | d :: ds, ρ => flat d = true ∧ g d ρ fun ρ2 => gb { Dd with nx := forGo g gb Dd ds, ct := forGo g gb Dd ds, bk := Dd.nx } ρ2
abbrev DJ := DSt → (List PyData → Prop) → Prop
def SrcR (K : PySem.W.Frag) (O : Ob) (wi : TI) (f : DJ) : Prop :=
 ∀ (H₀ : Hp) (A : Nat → Addr → Prop) (σ : St) (H : Hp) (ρ : DSt) (R : It → Hp → Prop) (Qd : List PyData → Prop), Rep K O H₀ A H σ ρ → f ρ Qd →
   (∀ (J : It) (H1 : Hp) (ds : List PyData) (B : Addr → Prop), Walk K O H H1 J ds B → (∀ a, B a → unO O A a) → Qd ds → R J H1) → wi σ H R
def newJ (f : DI) : DJ := fun ρ Q => f ρ fun fr ds => fr = true ∧ Q ds
theorem srcR_of {wi : TI} {f : DI} (h : SrcS K O wi f) : SrcR K O wi (newJ f) := fun H₀ A σ H ρ R Qd r q k => by
 refine h σ H ρ _ _ r.seen q fun J H1 ds B fr W hfr ⟨e, q1⟩ => k J H1 ds B W (fun a b => ⟨(W.hb a b).1, fun j z => ?_⟩) q1
 obtain ⟨_, ⟨xs, q, _⟩, _⟩ := r.own j a z
 rw [hfr e a b] at q; cases q
def forS (f : DJ) (g : DG) (gb : DS) : DS := fun Dd ρ => f ρ fun ds => forGo g gb Dd ds ρ
theorem Rep.tupStay {H₀ : Hp} {A A2 : Nat → Addr → Prop} {H1 H2 : Hp} {σ : St} {ρ : DSt} (r : Rep K O H₀ A H1 σ ρ) (f : Frm O A H1 A2 H2) : TupStay H1 H2 := fun a u hu e => by
 refine (f a u e ⟨fun m => ?_, fun j z => ?_⟩).1
 · have mm := r.ok.mutb H1 a u r.p e m
   obtain ⟨xs, e1 | ⟨o, e1⟩⟩ := hu
   · exact mm.1 xs e1
   · exact mm.2 o _ e1
 · obtain ⟨_, ⟨xs, q, ho⟩, _⟩ := r.own j a z
   rw [e] at q
   cases q
   obtain ⟨ys, e1 | ⟨o, e1⟩⟩ := hu
   · exact (ho ys).1 e1
   · exact (ho ys).2 o e1
theorem sd_for {wi : TI} {tg : TG} {tb : TS} {f : DJ} {g : DG} {gb : DS} (hs : SrcR K O wi f) (hg : GR K O tg g) (hb : SD K O tb gb) : SD K O (tFor wi tg tb) (forS f g gb) := fun H₀ A σ H ρ D Dd r q P => by
 refine hs H₀ A σ H ρ _ _ r q fun J H1 ds B W uB go => ?_
 have r1 := r.stp W.st
 have f1 : Frm O A H A H1 := .stp W.st
 refine ⟨fun i m σ2 H2 => m = ds.length - i ∧ i ≤ ds.length ∧ ∃ A2 ρ2, Rep K O H₀ A2 H2 σ2 ρ2 ∧ Frm O A H1 A2 H2 ∧ forGo g gb Dd (ds.drop i) ρ2, ⟨ds.length, rfl, Nat.zero_le _, A, ρ, r1, .refl, by simpa using go⟩, ?_⟩
 rintro i m σ2 H2 ⟨rfl, hi, A2, ρ2, r2, f2, go2⟩
 have kB : ∀ a o, B a → H1 a = some o → H2 a = some o := fun a o b e => (f2 a o e (uB a b)).1
 have ts : TupStay H1 H2 := r1.tupStay f2
 by_cases hlt : i < ds.length
 · right
   have hd : ds[i]? = some ds[i] := List.getElem?_eq_getElem hlt
   rw [List.drop_eq_getElem_cons hlt] at go2
   obtain ⟨fl, go2⟩ := go2
   obtain ⟨hgo, hy⟩ := W.item H2 i ds[i] kB ts hd (.inl fl)
   refine ⟨hgo, fun σ' H' => ∃ A' ρ', Rep K O H₀ A' H' σ' ρ' ∧ Frm O A H1 A' H' ∧ forGo g gb Dd (ds.drop (i + 1)) ρ', fun σ' H' ⟨A', ρ', x1, x2, x3⟩ => ⟨ds.length - (i + 1), by omega, rfl, hlt, A', ρ', x1, x2, x3⟩, fun x H3 y => ?_⟩
   obtain ⟨sm, ix⟩ := hy x H3 y
   have st3 : Stp O H2 H3 := .same r2.ok sm
   have r3 := r2.stp st3
   refine hg H₀ A2 σ2 H3 ρ2 x ds[i] _ _ r3 fl (Is.flat (TupStay.refl H3) ix fl) go2 fun A3 σ3 ρ3 r3' f3 q3 => ?_
   have f13 : Frm O A H1 A3 H3 := (f2.trans (.stp st3)).trans f3
   refine hb H₀ A3 σ3 H3 ρ3 _ _ r3' q3 ⟨fun A' σ' H' ρ' r' f' q' => ⟨A', ρ', r', f13.trans f', q'⟩, fun A' σ' H' ρ' r' f' q' => P.nx A' σ' H' ρ' r' (f1.trans (f13.trans f')) q', fun A' σ' H' ρ' r' f' q' => ⟨A', ρ', r', f13.trans f', q'⟩, P.rt⟩
 · left
   have e : i = ds.length := by omega
   subst e
   rw [List.drop_length] at go2
   exact ⟨W.stop H2 _ kB ts (Nat.le_refl _), P.nx A2 σ2 H2 ρ2 r2 (f1.trans f2) go2⟩
def whileS (c : DT) (gb : DS) : DS := fun Dd ρ => ∃ W : Nat → DSt → Prop, (∃ m, W m ρ) ∧ ∀ m ρ, W m ρ → c ρ fun b => if b = true then gb { Dd with nx := fun ρ' => ∃ m', m' < m ∧ W m' ρ', ct := fun ρ' => ∃ m', m' < m ∧ W m' ρ', bk := Dd.nx } ρ else Dd.nx ρ
theorem sd_while {c : TT} {tb : TS} {fc : DT} {gb : DS} (hc : TD K O c fc) (hb : SD K O tb gb) : SD K O (tWhile c tb) (whileS fc gb) := fun H₀ A σ H ρ D Dd r q P => by
 obtain ⟨W, ⟨m0, w0⟩, turn⟩ := q
 refine ⟨fun m σ2 H2 => ∃ A2 ρ2, Rep K O H₀ A2 H2 σ2 ρ2 ∧ Frm O A H A2 H2 ∧ W m ρ2, ⟨m0, A, ρ, r, .refl, w0⟩, ?_⟩
 rintro m σ2 H2 ⟨A2, ρ2, r2, f2, w2⟩
 refine hc σ2 H2 ρ2 _ _ r2.seen (turn m ρ2 w2) fun b H3 s3 q3 => ?_
 have f3 : Frm O A H A2 H3 := f2.trans (.stp s3)
 cases b with
 | true =>
   refine ⟨fun σ' H' => ∃ A' ρ', Rep K O H₀ A' H' σ' ρ' ∧ Frm O A H A' H' ∧ ∃ m', m' < m ∧ W m' ρ', fun σ' H' ⟨A', ρ', x1, x2, m', x3, x4⟩ => ⟨m', x3, A', ρ', x1, x2, x4⟩, ?_⟩
   exact hb H₀ A2 σ2 H3 ρ2 _ _ (r2.stp s3) q3 ⟨fun A' σ' H' ρ' r' f' q' => ⟨A', ρ', r', f3.trans f', q'⟩, fun A' σ' H' ρ' r' f' q' => P.nx A' σ' H' ρ' r' (f3.trans f') q', fun A' σ' H' ρ' r' f' q' => ⟨A', ρ', r', f3.trans f', q'⟩, P.rt⟩
 | false => exact P.nx A2 σ2 H3 ρ2 (r2.stp s3) f3 q3
end
def spO (K : PySem.W.Frag) (φ : Ob → Prop) (n : Nat) (f : List PyData → (R → Prop) → Prop) : Sp := fun vs H Q _ =>
 ∃ (O : Ob) (ds : List PyData) (Qr : R → Prop), O.Ok ∧ φ O ∧ O.P H ∧ ds.length = n ∧ IsAll K (unM O) H vs ds ∧ f ds Qr ∧ ∀ r, Qr r → ∀ v H', Stp O H H' → Out K O H H' v r → Q v H'
def spD (K : PySem.W.Frag) (φ : Ob → Prop) (n : Nat) (f : List PyData → (R → Prop) → Prop) : Sp := fun vs H Q _ =>
 ∃ (O : Ob) (ds : List PyData) (ws : List V) (Qr : R → Prop), O.Ok ∧ φ O ∧ O.P H ∧ ds.length = n ∧ vs = O.v :: ws ∧ IsAll K (unM O) H ws ds ∧ f ds Qr ∧ ∀ r, Qr r → ∀ v H', Stp O H H' → Out K O H H' v r → Q v H'
def dstart (N : List Str) (rs : List DV) : DSt := rs.map some ++ List.replicate (N.length - rs.length) none
section
variable {K : PySem.W.Frag} {O : Ob}
theorem rep_start {N : List Str} {H : Hp} {vs : List V} {rs : List DV} (ok : O.Ok) (p : O.P H) (hl : vs.length = rs.length) (h : ∀ (i : Nat) r, rs[i]? = some r → ∃ v, vs[i]? = some v ∧ ((∃ d, r = .im d ∧ Is K (unM O) H v d) ∨ (r = .ob ∧ v = O.v))) :
   Rep K O H (fun _ _ => False) H (L2.start N vs) (dstart N rs) := by
 refine ⟨ok, p, p, .refl _ _, fun _ _ _ z => z.elim, fun _ _ z => z.elim, fun i r e => ?_, ?_⟩
 · unfold dstart at e
   by_cases hi : i < rs.length
   · rw [List.getElem?_append_left (by simpa using hi), List.getElem?_map] at e
     cases q : rs[i]? with
     | none => rw [q] at e; cases e
     | some r' =>
       rw [q] at e
       have e' : r' = r := Option.some.inj (Option.some.inj e)
       subst e'
       obtain ⟨v, hv, hh⟩ := h i r' q
       refine ⟨v, ?_, ?_⟩
       · unfold L2.start
         rw [List.getElem?_append_left (by rw [List.length_map, hl]; exact hi), List.getElem?_map, hv]
         rfl
       · rcases hh with ⟨d, rfl, hd⟩ | ⟨rfl, hd⟩
         · exact hd.weak fun a u => ⟨u, fun j z => z⟩
         · exact hd
   · rw [List.getElem?_append_right (by simpa using hi), List.getElem?_replicate] at e
     split at e <;> cases e
 · unfold dstart L2.start
   rw [List.length_append, List.length_append, List.length_map, List.length_map, List.length_replicate, List.length_replicate, hl]
theorem run_O {N : List Str} {t : TS} {g : DS} {H : Hp} {vs : List V} {ds : List PyData} {Q : VK} {Qr : R → Prop} (h : SD K O t g) (ok : O.Ok) (p : O.P H) (ia : IsAll K (unM O) H vs ds)
   (hg : g { nx := fun _ => Qr (.o .none), rt := Qr } (dstart N (ds.map .im))) (hQ : ∀ r, Qr r → ∀ v H', Stp O H H' → Out K O H H' v r → Q v H') : t { nx := fun _ H' => Q .non H', rt := Q } (L2.start N vs) H := by
 refine h H _ _ H _ _ _ (rep_start ok p (by rw [List.length_map]; exact ia.length) fun i r e => ?_) hg ⟨fun A' σ' H' ρ' r' _ q => hQ _ q .non H' r'.st Is.none, fun A' σ' H' ρ' r' _ q => q.elim, fun A' σ' H' ρ' r' _ q => q.elim, fun H' v r s o q => hQ r q v H' s o⟩
 rw [List.getElem?_map] at e
 obtain ⟨d, hd, rfl⟩ := Option.map_eq_some_iff.mp e
 obtain ⟨v, hv, iv⟩ := ia.get hd
 exact ⟨v, hv, .inl ⟨d, rfl, iv⟩⟩
theorem run_D {N : List Str} {t : TS} {g : DS} {H : Hp} {ws : List V} {ds : List PyData} {Q : VK} {Qr : R → Prop} (h : SD K O t g) (ok : O.Ok) (p : O.P H) (ia : IsAll K (unM O) H ws ds)
   (hg : g { nx := fun _ => Qr (.o .none), rt := Qr } (dstart N (.ob :: ds.map .im))) (hQ : ∀ r, Qr r → ∀ v H', Stp O H H' → Out K O H H' v r → Q v H') : t { nx := fun _ H' => Q .non H', rt := Q } (L2.start N (O.v :: ws)) H := by
 refine h H _ _ H _ _ _ (rep_start ok p (by rw [List.length_cons, List.length_cons, List.length_map, ia.length]) fun i r e => ?_) hg ⟨fun A' σ' H' ρ' r' _ q => hQ _ q .non H' r'.st Is.none, fun A' σ' H' ρ' r' _ q => q.elim, fun A' σ' H' ρ' r' _ q => q.elim, fun H' v r s o q => hQ r q v H' s o⟩
 cases i with
 | zero => cases e; exact ⟨O.v, rfl, .inr ⟨rfl, rfl⟩⟩
 | succ i =>
   rw [List.getElem?_cons_succ, List.getElem?_map] at e
   obtain ⟨d, hd, rfl⟩ := Option.map_eq_some_iff.mp e
   obtain ⟨v, hv, iv⟩ := ia.get hd
   exact ⟨v, by rw [List.getElem?_cons_succ]; exact hv, .inl ⟨d, rfl, iv⟩⟩
def calD (n : Nat) (f : List PyData → (R → Prop) → Prop) (g : DA) : DE := fun ρ Q => g ρ fun ds => ds.length = n ∧ f ds Q
theorem ed_call {φ : Ob → Prop} {n : Nat} {f : List PyData → (R → Prop) → Prop} {E : XK} {t : TA} {g : DA} (hφ : φ O) (h : AD K O t g) : ED K O (tCall (spO K φ n f) [] E t) (calD n f g) := fun σ H ρ Q Qd S q k => by
 refine h σ H ρ _ _ S q fun vs H1 ds s1 is ⟨hn, q1⟩ => ?_
 rw [List.append_nil]
 exact ⟨O, ds, Qd, S.ok, hφ, s1.p S.p, hn, is, q1, fun r qr v H' s2 o2 => k v H' r (s1.trans s2) (o2.ahead S.ok S.p s1) qr⟩
def calO (i : Nat) (n : Nat) (f : List PyData → (R → Prop) → Prop) (g : DA) : DE := fun ρ Q => ρ[i]? = some (some .ob) ∧ g ρ fun ds => ds.length = n ∧ f ds Q
theorem ed_callO {φ : Ob → Prop} {i n : Nat} {f : List PyData → (R → Prop) → Prop} {E : XK} {t : TA} {g : DA} (hφ : φ O) (h : AD K O t g) : ED K O (tCall (spD K φ n f) [] E (tCons (tVar i) t)) (calO i n f g) := fun σ H ρ Q Qd S q k => by
 obtain ⟨e, q⟩ := q
 obtain ⟨v, hv, hh⟩ := S.at_ i _ e
 refine ⟨v, hv, ?_⟩
 refine h σ H ρ _ _ S q fun vs H1 ds s1 is ⟨hn, q1⟩ => ?_
 show spD K φ n f ((v :: vs) ++ []) H1 Q E
 rw [List.append_nil]
 exact ⟨O, ds, vs, Qd, S.ok, hφ, s1.p S.p, hn, by rw [show v = O.v from hh], is, q1, fun r qr v H' s2 o2 => k v H' r (s1.trans s2) (o2.ahead S.ok S.p s1) qr⟩
theorem spO_len {φ : Ob → Prop} {n : Nat} {f : List PyData → (R → Prop) → Prop} {ps : List Str} (hn : ps.length = n) : ∀ vs H Q E, spO K φ n f vs H Q E → vs.length = ps.length := fun vs H Q E zz => by obtain ⟨O, ds, _, _, _, _, h, is, _⟩ := zz; rw [is.length, h, hn]
theorem spD_len {φ : Ob → Prop} {n : Nat} {f : List PyData → (R → Prop) → Prop} {ps : List Str} (hn : ps.length = n + 1) : ∀ vs H Q E, spD K φ n f vs H Q E → vs.length = ps.length := fun vs H Q E zz => by obtain ⟨O, ds, ws, _, _, _, _, h, e, is, _⟩ := zz; rw [e, List.length_cons, is.length, h, hn]
end
end L3
namespace L3
open PySem PySem.Spec
open PyProof.Rows hiding St
open L2
section
variable {X : Cx}
def rEqD (K : PySem.W.Frag) (neg : Bool) : R2 := fun x y H Q => ∃ F G d e, Is K F H x d ∧ Is K G H y e ∧ d.canLay0 = true ∧ e.canLay0 = true ∧ d.depth ≤ 60 ∧ Q (.bl (if neg then !PyData.eqv d e else PyData.eqv d e)) H
theorem op_eqD (hu : X.A.units + 64 < cLine) : OpR X (compareOp .Eq) (rEqD X.K false) := by
 intro pins s σ H x y v u Q I rx ry h
 obtain ⟨F, G, d, e, i1, i2, h1, h2, h3, q⟩ := h
 obtain ⟨as, ra⟩ := i1.reads I rx
 obtain ⟨bs, rb⟩ := i2.reads I ry
 exact SeqAt.compareEq_reads ra rb h1 h2 (by omega) ⟨.bl _, H, I, rfl, q⟩
theorem op_neD (hu : X.A.units + 64 < cLine) : OpR X (compareOp .NotEq) (rEqD X.K true) := by
 intro pins s σ H x y v u Q I rx ry h
 obtain ⟨F, G, d, e, i1, i2, h1, h2, h3, q⟩ := h
 obtain ⟨as, ra⟩ := i1.reads I rx
 obtain ⟨bs, rb⟩ := i2.reads I ry
 exact SeqAt.compareNe_reads ra rb h1 h2 (by omega) ⟨.bl _, H, I, rfl, q⟩
theorem vals_bl : ∀ {bs : List Bool} {us : List Value}, Vals (bs.map V.bl) us → us = bs.map Value.bool
 | [], _, r => by cases r; rfl
 | b :: bs, _, r => by
   rw [List.map_cons] at r
   cases r with
   | cons h t => rw [vals_bl t, show _ = Value.bool b from h]; rfl
theorem all_range {bs : List Bool} : (List.range bs.length).all (fun i => bs[i]?.getD false) = bs.all id := by
 apply Bool.eq_iff_iff.mpr
 rw [List.all_eq_true, List.all_eq_true]
 constructor
 · intro h x hx
   obtain ⟨i, hi, e⟩ := List.mem_iff_getElem.mp hx
   have := h i (by simpa using hi)
   rw [List.getElem?_eq_getElem hi] at this
   rw [← e]; simpa using this
 · intro h i hi
   have hi' : i < bs.length := by simpa using hi
   rw [List.getElem?_eq_getElem hi']
   simpa using h _ (List.getElem_mem hi')
def rAll (any : Bool) : List V → Hp → VK → Prop := fun xs H Q => ∃ (p : Addr) (bs : List Bool), xs = [.ref p] ∧ H p = some (.lst (bs.map V.bl)) ∧ Q (.bl (if any then bs.any id else bs.all id)) H
theorem call_allL (hc : X.calm = true) : CallR X (.builtin "all") (rAll false) := by
 intro pins s σ H xs us Q I r h
 obtain ⟨p, bs, rfl, hH, q⟩ := h
 obtain ⟨u, rfl, ru⟩ := Vals.one r
 cases ru
 obtain ⟨z, its, n, rv, hl, e⟩ := I.lstM hH
 have ei := vals_bl rv
 subst ei
 have pl : s.heap.IsList p (bs.map Value.bool).toArray := ⟨_, e, rfl, _, rfl⟩
 have hne : p ≠ s.heap.objs.size := Nat.ne_of_lt (Heap.lt_size e)
 refine call_all_walk (wpAny_pyIter_list pl ?_)
 refine ⟨s.heap.objs.size, _, _, _, _, _, fun i => bs[i]?.getD false, rfl, Walks.list (A := X.A.in1) (I.ok.hd hc) _ p hne (bs.map Value.bool).toArray, ⟨⟨_, Heap.get?_push_size _ rfl, rfl, rfl⟩, _, Heap.get?_push_of_some _ e, rfl, _, rfl⟩, ?_, fun h' tk kk => ?_⟩
 · intro i v s' Q' E' hv hq
   have hv : (bs.map Value.bool).toArray[i]? = some v := hv
   rw [List.getElem?_toArray, List.getElem?_map] at hv
   obtain ⟨b, hb, rfl⟩ := Option.map_eq_some_iff.mp hv
   have hq : Q' (bs[i]?.getD false) s' := hq
   rw [hb] at hq
   exact wpAny_truthy_bool hq
 · have I1 : Inv X pins σ H { s with heap := h', toks := tk } := I.kept fun b o eb => kk b o (by simp; exact Nat.ne_of_lt (Heap.lt_size eb)) (Heap.get?_push_of_some _ eb)
   refine ⟨.bl _, H, I1, ?_, q⟩
   show Value.bool _ = Value.bool _
   rw [List.size_toArray, List.length_map, all_range]
   rfl
theorem vals_str : ∀ {ys : List Str} {us : List Value}, Vals (ys.map V.str) us → StrsAre us ys
 | [], _, r => by cases r; exact .nil
 | y :: ys, _, r => by
   rw [List.map_cons] at r
   cases r with
   | cons h t => obtain ⟨tk, rfl⟩ := h; exact .cons y tk (vals_str t)
theorem vals_of_strs : ∀ {ys : List Str} {us : List Value}, StrsAre us ys → Vals (ys.map V.str) us
 | _, _, .nil => .nil
 | _, _, .cons y t r => .cons ⟨t, rfl⟩ (vals_of_strs r)
def rJoin : V → List V → Hp → VK → Prop := fun x vs H Q => ∃ sep p ys, x = .str sep ∧ vs = [.ref p] ∧ H p = some (.lst (ys.map V.str)) ∧ (ys.map (·.length)).sum + ys.length * sep.length ≤ 16777216 ∧ Q (.str (Txt.join sep ys)) H
theorem mt_join : MtM X "str.join" rJoin := by
 intro pins s σ H x vs v us Q I rx rv h
 obtain ⟨sep, p, ys, rfl, rfl, hH, hz, q⟩ := h
 obtain ⟨t, rfl⟩ := rx
 obtain ⟨u, rfl, ru⟩ := rv.one
 cases ru
 obtain ⟨z, its, n, r, hl, e⟩ := I.lstM hH
 exact join_list ⟨_, e, rfl, _, rfl⟩ (by simpa using vals_str r) hz fun t' k => ⟨.str _, H, I.tok _, ⟨_, rfl⟩, q⟩
def rSortS : List V → Hp → VK → Prop := fun xs H Q => ∃ p ys, xs = [.ref p] ∧ H p = some (.lst (ys.map V.str)) ∧ ys.length < 64 ∧ ∀ zs l, zs.Perm ys → sortedS zs = true → H l = none → Q (.ref l) (upd H l (.lst (zs.map V.str)))
theorem call_sortS : CallR X (.builtin "sorted") rSortS := by
 intro pins s σ H xs us Q I r h
 obtain ⟨p, ys, rfl, hH, hz, q⟩ := h
 obtain ⟨u, rfl, ru⟩ := Vals.one r
 cases ru
 obtain ⟨z, its, n, rv, hl, e⟩ := I.lstM hH
 refine sorted_strs (ss := ys) ⟨_, e, rfl, _, rfl⟩ (vals_str rv) (by rw [← hl, List.length_map]; exact hz) fun out zs h1 h2 h3 => ?_
 obtain ⟨c, he⟩ := sortedAll_at s.heap its out
 have hn : H (s.heap.objs.size + 1) = none := I.hok.fresh (Nat.le_succ _)
 refine ⟨.ref _, _, I.laid (a := s.heap.objs.size + 1) (o := .lst (zs.map V.str)) (t' := s.toks) (fun b o eb => sortedAll_old eb) (Nat.le_succ _) ?_, rfl, q zs _ h2 h3 hn⟩
 refine ⟨?_, out.toList, c, vals_of_strs h1, by simpa using he⟩
 rw [List.length_map, h2.length_eq]
 have : sizeLine = 16777216 := sizeLine_eq
 omega
theorem items_vals {P : Nat → Value → Prop} {acc : Array Value} {ys : List V} (h : ItemsOf P acc ys.length) (hv : ∀ i v, P i v → ∃ y, ys[i]? = some y ∧ RelV y v) : Vals ys acc.toList := by
 have go : ∀ (k : Nat) (zs : List V) (l : List Value), zs.length = l.length → (∀ (i : Nat) v, l[i]? = some v → ∃ y, zs[i]? = some y ∧ RelV y v) → Vals zs l := by
   intro k zs l
   induction l generalizing zs with
   | nil => intro e _; cases zs with
     | nil => exact .nil
     | cons _ _ => simp at e
   | cons a l ih => intro e hh; cases zs with
     | nil => simp at e
     | cons z zs =>
       obtain ⟨y, h1, h2⟩ := hh 0 a rfl
       simp at h1
       subst h1
       exact .cons h2 (ih zs (by simpa using e) fun i v ev => by simpa using hh (i + 1) v (by simpa using ev))
 refine go 0 ys acc.toList (by have e := h.1; simp [e]) fun i v e => hv i v (h.2 i v (by simpa using e))
def rListS : List V → Hp → VK → Prop := fun xs H Q => ∃ x : Str, xs = [.str x] ∧ x.cps.size ≤ sizeLine ∧ ∀ l, H l = none → Q (.ref l) (upd H l (.lst (x.cps.toList.map fun c => V.str (sg c))))
theorem call_listS (hc : X.calm = true) : CallR X (.type "list") rListS := by
 intro pins s σ H xs us Q I r h
 obtain ⟨x, rfl, hz, q⟩ := h
 obtain ⟨u, rfl, ru⟩ := Vals.one r
 obtain ⟨t, rfl⟩ := ru
 refine call_list_str (I.ok.hd hc) x t (fun h' tk acc c kk e it => ?_) hz
 refine ⟨.ref _, _, I.laid (a := s.heap.objs.size) (o := .lst (x.cps.toList.map fun c => V.str (sg c))) kk (Nat.le_refl _) ?_, rfl, q _ I.fresh⟩
 refine ⟨by simpa using hz, acc.toList, c, items_vals (P := SignAt x) (by simpa using it) fun i v hv => ?_, by simpa using e⟩
 obtain ⟨cc, uu, h1, rfl⟩ := hv
 exact ⟨.str (sg cc), by rw [List.getElem?_map]; simp [h1], ⟨uu, rfl⟩⟩
def rRepr (K : PySem.W.Frag) : List V → Hp → VK → Prop := fun xs H Q => ∃ v F d, xs = [v] ∧ Is K F H v d ∧ d.showable = true ∧ d.hasDict = false ∧ d.depth ≤ 60 ∧ d.shown.length ≤ sizeLine ∧ Q (.str d.shown) H
theorem call_reprD (hg : X.A.guards = some []) (hu : X.A.units + 64 < cLine) : CallR X (.builtin "repr") (rRepr X.K) := by
 intro pins s σ H xs us Q I r h
 obtain ⟨v, F, d, rfl, i, h1, h2, h3, h4, q⟩ := h
 obtain ⟨u, rfl, ru⟩ := Vals.one r
 have fin : ∀ h' u tk, (∀ b o, s.heap.get? b = some o → h'.get? b = some o) → EP X pins σ Q (.str d.shown u) { s with heap := h', toks := tk } := fun h' u tk kk => ⟨.str _, H, I.kept kk, ⟨_, rfl⟩, q⟩
 have fin' : ∀ u tk, EP X pins σ Q (.str d.shown u) { s with toks := tk } := fun u tk => ⟨.str _, H, I.tok _, ⟨_, rfl⟩, q⟩
 obtain ⟨as, ra⟩ := i.reads I ru
 cases i with
 | none => cases ru; exact PySem.P.repr_of_none (fin' _ _)
 | bool b => cases ru; exact PySem.P.repr_of_bool (fin' _ _)
 | int n => obtain ⟨t, rfl⟩ := ru; exact PySem.P.repr_of_int (by simpa [PyData.showable] using h1) (fin' _ _)
 | str x => obtain ⟨t, rfl⟩ := ru; exact PySem.P.repr_of_str (fin' _ _) h4
 | list _ _ _ => cases ru; exact repr_of_reads' ra h1 (fun z => by rw [h2] at z; cases z) hg (by omega) (fun _ _ e => e) fin h4
 | tuple _ _ => cases ru; exact repr_of_reads' ra h1 (fun z => by rw [h2] at z; cases z) hg (by omega) (fun _ _ e => e) fin h4
end
end L3
namespace L3
open PySem PySem.Spec
open PyProof.Rows hiding St
open L2
def tx (l : List Nat) : Str := ⟨l.toArray⟩
theorem tx_cps (x : Str) : tx x.cps.toList = x := by cases x; simp [tx]
theorem tx_toList (l : List Nat) : (tx l).cps.toList = l := by simp [tx]
theorem tx_length (l : List Nat) : (tx l).length = l.length := by simp [tx, Str.length]
def cutL {α : Type} (xs : List α) (lo hi : Option Int) : List α := (xs.drop (HT.sIx xs.length 0 lo)).take (HT.sIx xs.length xs.length hi - HT.sIx xs.length 0 lo)
theorem sIx_clip (n d : Nat) (v : Int) : max (0 : Int) (min (if v < 0 then v + n else v) n) = ((HT.sIx n d (some v) : Nat) : Int) := by
 rw [← HT.clip_eq v n d]
 by_cases h : v < 0
 · rw [if_pos h, if_pos h]; omega
 · rw [if_neg h, if_neg h]; omega
theorem slice_range (lo hi : Option Int) (n : Nat) : Builtin.Str.strSliceIndices lo hi 1 n = (List.range (HT.sIx n n hi - HT.sIx n 0 lo)).map fun k => HT.sIx n 0 lo + k := by
 have e1 : (match lo with | none => (0 : Int) | some i => max 0 (min (if i < 0 then i + (n : Int) else i) n)) = ((HT.sIx n 0 lo : Nat) : Int) := by
   cases lo with
   | none => rfl
   | some v => exact sIx_clip n 0 v
 have e2 : (match hi with | none => (n : Int) | some i => max 0 (min (if i < 0 then i + (n : Int) else i) n)) = ((HT.sIx n n hi : Nat) : Int) := by
   cases hi with
   | none => rfl
   | some v => exact sIx_clip n n v
 have e0 : Builtin.Str.strSliceIndices lo hi 1 n = sliceRange ((HT.sIx n 0 lo : Nat) : Int) ((HT.sIx n n hi : Nat) : Int) 1 := by
   rw [← e1, ← e2]
   cases lo <;> cases hi <;> rfl
 rw [e0]
 generalize HT.sIx n 0 lo = a
 generalize HT.sIx n n hi = b
 simp only [sliceRange, show ((1 : Int) > 0) = True from by simp, if_true]
 by_cases hlt : (a : Int) < b
 · have e3 : (((b : Int) - a + 1 - 1) / 1).toNat = b - a := by first | omega | (simp; done) | (simp; omega)
   simp only [hlt, if_true, e3]
   refine List.map_congr_left fun k _ => ?_
   omega
 · have : b - a = 0 := by omega
   simp [hlt, this]
theorem picks' {α : Type} (l : List α) : ∀ (n a : Nat), a + n ≤ l.length → ((List.range n).map fun k => a + k).filterMap (fun i => l[i]?) = (l.drop a).take n
 | 0, _, _ => by simp
 | n + 1, a, h => by
   have hlt : a + n < l.length := by omega
   rw [List.range_succ, List.map_append, List.filterMap_append, picks' l n a (by omega), List.take_add_one, List.getElem?_drop]
   simp [List.getElem?_eq_getElem hlt]
section
variable {X : Cx}
def rSlS : V → Option Int → Option Int → Hp → VK → Prop := fun x lo hi H Q => ∃ z : Str, x = .str z ∧ z.length ≤ sizeLine ∧ Q (.str (tx (cutL z.cps.toList lo hi))) H
theorem sl_str : SlR X rSlS := by
 intro pins s σ H x v vl vu lo hi sl Q I rx hs pl pu h
 obtain ⟨z, rfl, hz, q⟩ := h
 obtain ⟨t, rfl⟩ := rx
 refine ⟨"str", _, PySem.F.slot_str_getitem.lookup, typeIs_str s z t, ?_⟩
 have hl : z.cps.toList.length = z.length := by simp [Str.length]
 have hi' : HT.sIx z.length z.length hi ≤ z.length := HT.sIx_le _ _ (Nat.le_refl _) hi
 have key : ∀ l u : Option (Int × Tok), l.map (·.1) = lo → u.map (·.1) = hi → s.heap.IsSlice sl l u none → wpAny (model X.prog X.w) X.A (getItem (.str z t) (.ref sl)) (EP X pins σ Q) X.xe s := by
   intro l u el eu hsl
   have e : slicePicked z l u none = (List.range (HT.sIx z.length z.length hi - HT.sIx z.length 0 lo)).map fun k => HT.sIx z.length 0 lo + k := by
     unfold slicePicked
     rw [el, eu]
     exact slice_range lo hi z.length
   have ec : tx (cutL z.cps.toList lo hi) = ⟨((slicePicked z l u none).filterMap (z.cps[·]?)).toArray⟩ := by
     rw [e]
     unfold cutL tx
     rw [hl]
     by_cases hij : HT.sIx z.length 0 lo ≤ HT.sIx z.length z.length hi
     · have p := picks' z.cps.toList (HT.sIx z.length z.length hi - HT.sIx z.length 0 lo) (HT.sIx z.length 0 lo) (by rw [hl]; omega)
       rw [← p]
       simp
     · have : HT.sIx z.length z.length hi - HT.sIx z.length 0 lo = 0 := by omega
       rw [this]
       simp
   refine wpAny_getItem_str_slice hsl rfl ?_
   unfold sliceMade
   split
   · rename_i hc
     have hw : (slicePicked z l u none).length = z.length := by simpa using hc
     have ex : tx (cutL z.cps.toList lo hi) = z := by
       rw [e, List.length_map, List.length_range] at hw
       unfold cutL
       rw [hl]
       have h0 : HT.sIx z.length 0 lo = 0 ∨ z.length = 0 := by omega
       rcases h0 with h0 | h0
       · rw [h0] at hw ⊢
         rw [List.drop_zero, List.take_of_length_le (by rw [hl]; omega)]
         exact tx_cps z
       · have hn : z.cps.toList = [] := List.eq_nil_of_length_eq_zero (by rw [hl]; exact h0)
         rw [hn]
         simp only [List.drop_nil, List.take_nil]
         rw [← hn]
         exact tx_cps z
     exact ⟨.str _, H, I, ⟨t, by rw [ex]⟩, q⟩
   · rw [← ec]
     have hlen : (tx (cutL z.cps.toList lo hi)).length ≤ sizeLine := by
       rw [tx_length]
       unfold cutL
       rw [List.length_take, List.length_drop, hl]
       omega
     first
       | exact ⟨.str _, H, I.tok _, ⟨_, rfl⟩, q⟩
       | exact ⟨hlen, .str _, H, I.tok _, ⟨_, rfl⟩, q⟩
       | exact fun _ => ⟨.str _, H, I.tok _, ⟨_, rfl⟩, q⟩
 obtain ⟨o, ho, hc, hd⟩ := hs
 cases pl with
 | none => cases pu with
   | none => exact key none none rfl rfl ⟨o, ho, hc, hd⟩
   | int j t' => exact key none (some (j, t')) rfl rfl ⟨o, ho, hc, hd⟩
 | int i ti => cases pu with
   | none => exact key (some (i, ti)) none rfl rfl ⟨o, ho, hc, hd⟩
   | int j t' => exact key (some (i, ti)) (some (j, t')) rfl rfl ⟨o, ho, hc, hd⟩
def rSlTW (K : PySem.W.Frag) : V → Option Int → Option Int → Hp → VK → Prop := fun x lo hi H Q => ∃ a xs, x = .ref a ∧ SqT K H a xs ∧ (HT.sIx xs.length 0 lo = 0 ∧ HT.sIx xs.length xs.length hi = xs.length) ∧ Q (.ref a) H
theorem getItem_tuple_whole {prog : Program} {w : World} {A : Around} {E : Value → Shared → Prop} {s : Shared} {t sl : Addr} {items : Array Value} {vl vu : Value} {lo hi : Option Int} {Q : Value → Shared → Prop} (ht : IsTup s.heap t items) (hs : s.heap.IsSliceOf sl vl vu .none) (pl : IsPart vl lo) (pu : IsPart vu hi)
   (hw : HT.sIx items.size 0 lo = 0 ∧ HT.sIx items.size items.size hi = items.size) (h : Q (.ref t) s) : wpAny (model prog w) A (getItem (.ref t) (.ref sl)) Q E s := by
 obtain ⟨os, hos, hcs, hds⟩ := id hs
 have hTs : s.TypeIs (.ref sl) "slice" := ⟨os, hos, hcs⟩
 unfold getItem
 try with_reducible refine wpAny_holding ?_
 first | refine wpAny_bind (wpAny_pure ?_) | skip
 refine wpAny_bind (wpAny_sequenceKey ht.typeIs (by decide) ?_)
 refine wpAny_bind (wpAny_callSpecial?_slot (name := Str.ofString "__getitem__") ht.typeIs PyProof.Rows.slot_tuple_getitem
   (wpAny_call_entry PyProof.Rows.slot_tuple_getitem ht.typeIs entry_tuple_getitem ?_ (args_tuple_getitem _ _)))
 show wpAny _ _ (Builtin.Tuple.tupleItemsOf (.ref t) >>= _) _ _ s
 refine wpAny_bind (tupleItemsOf_ ht ?_)
 refine wpAny_bind (wpAny_typeOf hTs ?_)
 rw [if_pos (by decide)]
 refine wpAny_bind (HT.sliceApplied_gen hs pl pu ?_)
 have hno : (((HT.sIx items.size 0 lo : Nat) : Int) == 0 && (1 : Int) == 1 && (HT.sIx items.size items.size hi - HT.sIx items.size 0 lo) == items.size) = true := by
   rw [hw.1, hw.2]
   simp
 show wpAny _ _ (if (((HT.sIx items.size 0 lo : Nat) : Int) == 0 && (1 : Int) == 1 && (HT.sIx items.size items.size hi - HT.sIx items.size 0 lo) == items.size) = true then _ else _) _ _ s
 rw [if_pos hno]
 obtain ⟨o, ho, hc, n, hd⟩ := id ht
 refine wpAny_bind ?_
 unfold Builtin.Tuple.tupleIsExact
 refine wpAny_bind (wpAny_typeOf ht.typeIs (wpAny_pure ?_))
 show wpAny _ _ (if ((Value.type "tuple") == (Value.type "tuple")) = true then _ else _) _ _ s
 rw [if_pos (by decide)]
 exact wpAny_bind (wpAny_rule (wpAny_pure ⟨_, rfl, wpAny_pure h⟩))
theorem sl_tupW : SlR X (rSlTW X.K) := by
 intro pins s σ H x v vl vu lo hi sl Q I rx hs pl pu h
 obtain ⟨a, xs, rfl, hx, hw, q⟩ := h
 cases rx
 obtain ⟨its, r, ht, hz⟩ := I.tuple hx
 have hlen : its.toArray.size = xs.length := by rw [List.size_toArray]; exact r.length.symm
 exact ⟨"tuple", _, PyProof.Rows.slot_tuple_getitem.lookup, ht.typeIs, getItem_tuple_whole ht hs pl pu (by rw [hlen]; exact hw) ⟨.ref a, H, I, rfl, q⟩⟩
def rSl (K : PySem.W.Frag) : V → Option Int → Option Int → Hp → VK → Prop := fun x lo hi H Q => rSlL K x lo hi H Q ∨ rSlT K x lo hi H Q ∨ rSlTW K x lo hi H Q ∨ rSlS x lo hi H Q
theorem sl_any : SlR X (rSl X.K) := sl_list.or (sl_tup.or (sl_tupW.or sl_str))
def rCatT0 (K : PySem.W.Frag) : R2 := fun x y H Q => ∃ a b ys, x = .ref a ∧ y = .ref b ∧ SqT K H a [] ∧ SqT K H b ys ∧ Q (.ref b) H
theorem op_catT0 : OpR X (binaryOp .Add) (rCatT0 X.K) := by
 intro pins s σ H x y v u Q I rx ry h
 obtain ⟨a, b, ys, rfl, rfl, ha, hb, q⟩ := h
 cases rx
 cases ry
 obtain ⟨its, r1, p1, _⟩ := I.tuple ha
 obtain ⟨its2, r2, p2, _⟩ := I.tuple hb
 cases r1
 obtain ⟨⟨cls, dd, data, sl⟩, ho, hc, n, hd⟩ := id p1
 obtain ⟨⟨cls2, dd2, data2, sl2⟩, ho2, hc2, n2, hd2⟩ := id p2
 simp only at hc hd hc2 hd2
 subst hc hd hc2 hd2
 exact concat_meets ⟨_, ho, rfl⟩ ⟨_, ho2, rfl⟩ noFill_tuple_add seq_tuple_add PySem.F.slot_tuple_add PySem.F.entry_tuple_add (PySem.F.args_tuple_add_2 _ _)
   (tuple_addW0 a b _ its2.toArray n n2 dd dd2 sl sl2 (by simp)) ⟨ho, ho2, ⟨.ref b, H, I, rfl, q⟩⟩
end
end L3
namespace L3
open PySem PySem.Spec
open PyProof.Rows hiding St
open L2
section
variable {K : PySem.W.Frag} {O : Ob} {F : Addr → Prop} {H : Hp}
theorem isAll_strs : ∀ {vs : List V} {ys : List Str}, IsAll K F H vs (ys.map .str) → vs = ys.map V.str
 | _, [], h => by cases h; rfl
 | _, y :: ys, h => by
   rw [List.map_cons] at h
   cases h with
   | cons h1 h2 => cases h1; rw [isAll_strs h2]; rfl
theorem isAll_ints : ∀ {vs : List V} {ns : List Int}, IsAll K F H vs (ns.map .int) → vs = ns.map V.int
 | _, [], h => by cases h; rfl
 | _, y :: ys, h => by
   rw [List.map_cons] at h
   cases h with
   | cons h1 h2 => cases h1; rw [isAll_ints h2]; rfl
theorem isAll_bools : ∀ {vs : List V} {bs : List Bool}, IsAll K F H vs (bs.map .bool) → vs = bs.map V.bl
 | _, [], h => by cases h; rfl
 | _, y :: ys, h => by
   rw [List.map_cons] at h
   cases h with
   | cons h1 h2 => cases h1; rw [isAll_bools h2]; rfl
theorem strs_isAll : ∀ (ys : List Str), IsAll K F H (ys.map V.str) (ys.map .str)
 | [] => .nil
 | y :: ys => .cons (.str y) (strs_isAll ys)
theorem isAll_atI {vs : List V} {ds : List PyData} {i : Int} {d : PyData} (h : IsAll K F H vs ds) (e : atI ds i = some d) : ∃ v, atI vs i = some v ∧ Is K F H v d := by
 unfold atI at e ⊢
 rw [h.length]
 cases q : ixN ds.length i with
 | none => rw [q] at e; cases e
 | some j =>
   rw [q] at e
   obtain ⟨v, hv, iv⟩ := h.get (i := j) e
   exact ⟨v, hv, iv⟩
theorem isAll_cut {vs : List V} {ds : List PyData} (h : IsAll K F H vs ds) (lo hi : Option Int) : IsAll K F H (cutV vs lo hi) (cutL ds lo hi) := by
 unfold cutV cutL
 rw [h.length]
 exact (h.drop _).take _
theorem out_list {H : Hp} {p : Addr} {vs : List V} {ds : List PyData} (ok : O.Ok) (hp : H p = none) (h : IsAll K (unM O) H vs ds) : Stp O H (upd H p (.lst vs)) ∧ Out K O H (upd H p (.lst vs)) (.ref p) (.n ds) := by
 have s : Stp O H (upd H p (.lst vs)) := .new ok hp _
 exact ⟨s, p, vs, rfl, hp, upd_same, h.stp s (fun _ z => z) (fun _ z => z)⟩
theorem out_tup {H : Hp} {p : Addr} {vs : List V} {ds : List PyData} (ok : O.Ok) (hp : H p = none) (h : IsAll K (unM O) H vs ds) : Stp O H (upd H p (.tup vs)) ∧ Out K O H (upd H p (.tup vs)) (.ref p) (.o (.tuple ds)) := by
 have s : Stp O H (upd H p (.tup vs)) := .new ok hp _
 exact ⟨s, Is.tuple (.of upd_same) (h.stp s (fun _ z => z) (fun _ z => z))⟩
def okD (d : PyData) : Bool := d.canLay0 && decide (d.depth ≤ 60)
def eqF (neg : Bool) : PyData → PyData → Option R := fun d e => if (okD d && e.canLay0) = true then some (.o (.bool (if neg then !PyData.eqv d e else PyData.eqv d e))) else none
theorem opd_eq (neg : Bool) : OpD K O (rEqD K neg) (fn2 (eqF neg)) := fun H x y d e Q Qd ok p ix iy ⟨r, hr, q⟩ k => by
 unfold eqF at hr
 split at hr
 · rename_i hc
   cases hr
   simp only [Bool.and_eq_true, okD, decide_eq_true_eq] at hc
   exact ⟨_, _, d, e, ix, iy, hc.1.1, hc.2, hc.1.2, k _ H (.o _) (.refl _ _) (Is.bool _) q⟩
 · cases hr
def inF (neg : Bool) : PyData → PyData → Option R := fun d e => match d, e with
 | .str x, .str y => some (.o (.bool (if neg then !(!(Builtin.Str.occurrences y x 0 y.length 1).isEmpty) else !(Builtin.Str.occurrences y x 0 y.length 1).isEmpty)))
 | d, .list es => if (okD d && PyData.canLayAll0 es) = true then some (.o (.bool (if neg then !es.any (fun y => PyData.eqv y d) else es.any fun y => PyData.eqv y d))) else none
 | d, .tuple es => if (okD d && PyData.canLayAll0 es) = true then some (.o (.bool (if neg then !es.any (fun y => PyData.eqv y d) else es.any fun y => PyData.eqv y d))) else none
 | _, _ => none
def intF (g : Int → Int → PyData) : PyData → PyData → Option R
 | .int i, .int j => some (.o (g i j))
 | _, _ => none
theorem opd_int0 {g : Int → Int → V} {G : Int → Int → PyData} (h : ∀ i j H, Is K (unM O) H (g i j) (G i j)) : OpD K O (rI0 g) (fn2 (intF G)) := fun H x y d e Q Qd ok p ix iy ⟨r, hr, q⟩ k => by
 unfold intF at hr
 split at hr
 · cases ix
   cases iy
   cases hr
   exact ⟨_, _, rfl, rfl, k _ H (.o _) (.refl _ _) (h _ _ H) q⟩
 · cases hr
theorem opd_sub : OpD K O (rI0 fun i j => .int (i - j)) (fn2 (intF fun i j => .int (i - j))) := opd_int0 fun _ _ _ => .int _
theorem opd_lt : OpD K O (rI0 fun i j => .bl (decide (i < j))) (fn2 (intF fun i j => .bool (decide (i < j)))) := opd_int0 fun _ _ _ => .bool _
theorem opd_le : OpD K O (rI0 fun i j => .bl (decide (i ≤ j))) (fn2 (intF fun i j => .bool (decide (i ≤ j)))) := opd_int0 fun _ _ _ => .bool _
theorem opd_gt : OpD K O (rI0 fun i j => .bl (decide (j < i))) (fn2 (intF fun i j => .bool (decide (j < i)))) := opd_int0 fun _ _ _ => .bool _
def rAddU (K : PySem.W.Frag) : R2 := fun x y H Q => rI0 (fun i j => .int (i + j)) x y H Q ∨ (∃ i j, x = .str i ∧ y = .str j ∧ i.length + j.length ≤ sizeLine ∧ Q (.str (i ++ j)) H) ∨ rCat x y H Q ∨ rCatT K x y H Q ∨ rCatT0 K x y H Q
theorem op_addU {X : Cx} : OpR X (binaryOp .Add) (rAddU X.K) := op_add.or (op_add_str.or (op_cat.or (op_catT.or op_catT0)))
def addF : PyData → PyData → Option R := fun d e => match d, e with
 | .int i, .int j => some (.o (.int (i + j)))
 | .str x, .str y => if x.length + y.length ≤ sizeLine then some (.o (.str (x ++ y))) else none
 | .list a, .list b => if a.length + b.length ≤ sizeLine then some (.n (a ++ b)) else none
 | .tuple a, .tuple b => if a.length + b.length ≤ sizeLine then some (.o (.tuple (a ++ b))) else none
 | _, _ => none
theorem opd_add : OpD K O (rAddU K) (fn2 addF) := fun H x y d e Q Qd ok p ix iy ⟨r, hr, q⟩ k => by
 unfold addF at hr
 split at hr
 · cases ix
   cases iy
   cases hr
   exact .inl ⟨_, _, rfl, rfl, k _ H (.o _) (.refl _ _) (Is.int _) q⟩
 · split at hr
   · rename_i hz
     cases ix
     cases iy
     cases hr
     exact .inr (.inl ⟨_, _, rfl, rfl, hz, k _ H (.o _) (.refl _ _) (Is.str _) q⟩)
   · cases hr
 · split at hr
   · rename_i hz
     cases hr
     cases ix with
     | list f1 h1 s1 =>
       cases iy with
       | list f2 h2 s2 =>
         refine .inr (.inr (.inl ⟨_, _, _, _, rfl, rfl, h1, h2, by rw [s1.length, s2.length]; exact hz, fun p' hp => ?_⟩))
         obtain ⟨a1, a2⟩ := out_list ok hp (s1.append s2)
         exact k _ _ _ a1 a2 q
   · cases hr
 · split at hr
   · rename_i hz
     cases hr
     cases ix with
     | tuple h1 s1 =>
       cases iy with
       | tuple h2 s2 =>
         rename_i a xs b ys
         cases xs with
         | nil =>
           cases s1
           exact .inr (.inr (.inr (.inr ⟨a, b, ys, rfl, rfl, h1, h2, k _ H (.o _) (.refl _ _) (Is.tuple h2 s2) q⟩)))
         | cons z zs =>
           refine .inr (.inr (.inr (.inl ⟨a, b, _, ys, rfl, rfl, h1, h2, by simp, by rw [s1.length, s2.length]; exact hz, fun e => ?_, fun _ p' hp => ?_⟩)))
           · subst e
             cases s2
             rw [List.append_nil] at q
             exact k _ H (.o _) (.refl _ _) (Is.tuple h1 s1) q
           · obtain ⟨a1, a2⟩ := out_tup ok hp (s1.append s2)
             exact k _ _ _ a1 a2 q
   · cases hr
 · cases hr
def idxF : PyData → PyData → Option R := fun d e => match d, e with
 | .list ds, .int i => (atI ds i).map .o
 | .tuple ds, .int i => (atI ds i).map .o
 | .str x, .int i => if x.length ≤ sizeLine then (atI x.cps.toList i).map fun c => .o (.str (sg c)) else none
 | _, _ => none
theorem opd_idx : OpD K O (rIx K) (fn2 idxF) := fun H x y d e Q Qd ok p ix iy ⟨r, hr, q⟩ k => by
 unfold idxF at hr
 split at hr
 · obtain ⟨z, hz, rfl⟩ := Option.map_eq_some_iff.mp hr
   cases iy
   cases ix with
   | list f1 h1 s1 =>
     obtain ⟨v, hv, iv⟩ := isAll_atI s1 hz
     exact .inl ⟨_, _, _, v, rfl, rfl, .of h1, hv, k v H (.o z) (.refl _ _) iv q⟩
 · obtain ⟨z, hz, rfl⟩ := Option.map_eq_some_iff.mp hr
   cases iy
   cases ix with
   | tuple h1 s1 =>
     obtain ⟨v, hv, iv⟩ := isAll_atI s1 hz
     exact .inr (.inl ⟨_, _, _, v, rfl, rfl, h1, hv, k v H (.o z) (.refl _ _) iv q⟩)
 · split at hr
   · rename_i hl
     obtain ⟨c, hc, rfl⟩ := Option.map_eq_some_iff.mp hr
     cases iy
     cases ix
     exact .inr (.inr ⟨_, _, c, rfl, rfl, hl, hc, k _ H (.o _) (.refl _ _) (Is.str _) q⟩)
   · cases hr
 · cases hr
abbrev DO := DSt → (Option Int → Prop) → Prop
def OD (K : PySem.W.Frag) (O : Ob) (t : TO) (f : DO) : Prop :=
 ∀ (σ : St) (H : Hp) (ρ : DSt) (Q : Option Int → Hp → Prop) (Qd : Option Int → Prop), Seen K O H σ ρ → f ρ Qd → (∀ o H', Stp O H H' → Qd o → Q o H') → t σ H Q
def noO : DO := fun _ Q => Q none
def someO (f : DE) : DO := fun ρ Q => f ρ fun r => ∃ i, r.d = .int i ∧ Q (some i)
theorem od_none : OD K O tNoPart noO := fun σ H ρ Q Qd S h k => k none H (.refl _ _) h
theorem od_some {t : TE} {f : DE} (h : ED K O t f) : OD K O (tPart t) (someO f) := fun σ H ρ Q Qd S hf k => by
 refine h σ H ρ _ _ S hf fun v H1 r s1 o1 ⟨i, e, q⟩ => ?_
 have iv := o1.is S.ok S.p
 rw [e] at iv
 cases iv
 exact ⟨i, rfl, k (some i) H1 s1 q⟩
def slcF (lo hi : Option Int) : PyData → Option R
 | .list ds => some (.n (cutL ds lo hi))
 | .tuple ds => some (.o (.tuple (cutL ds lo hi)))
 | .str x => if x.length ≤ sizeLine then some (.o (.str (tx (cutL x.cps.toList lo hi)))) else none
 | _ => none
def slD (f : DE) (a b : DO) : DE := fun ρ Q => f ρ fun r => a ρ fun lo => b ρ fun hi => ∃ s, slcF lo hi r.d = some s ∧ Q s
theorem ed_slice {t : TE} {tl th : TO} {f : DE} {a b : DO} (h : ED K O t f) (ha : OD K O tl a) (hb : OD K O th b) : ED K O (tSl (rSl K) t tl th) (slD f a b) := fun σ H ρ Q Qd S hf k => by
 refine h σ H ρ _ _ S hf fun v H1 r s1 o1 q1 => ?_
 refine ha σ H1 ρ _ _ (S.stp s1) q1 fun lo H2 s2 q2 => ?_
 refine hb σ H2 ρ _ _ ((S.stp s1).stp s2) q2 fun hi H3 s3 ⟨s, hr, q⟩ => ?_
 have st := (s1.trans s2).trans s3
 have iv : Is K (unM O) H3 v r.d := Is.stp (s2.trans s3) (fun _ z => z) (fun _ z => z) (o1.is S.ok S.p)
 revert hr
 generalize r.d = d at iv
 intro hr
 unfold slcF at hr
 split at hr
 · cases hr
   cases iv with
   | list f1 h1 z1 =>
     refine .inl ⟨_, _, rfl, .of h1, fun p hp => ?_⟩
     obtain ⟨a1, a2⟩ := out_list S.ok hp (isAll_cut z1 lo hi)
     exact k _ _ _ (st.trans a1) (Out.ahead S.ok S.p st a2) q
 · cases hr
   cases iv with
   | tuple h1 z1 =>
     rename_i a' xs
     by_cases hw : HT.sIx xs.length 0 lo = 0 ∧ HT.sIx xs.length xs.length hi = xs.length
     · refine .inr (.inr (.inl ⟨a', xs, rfl, h1, hw, k _ H3 (.o _) st ?_ q⟩))
       have e : cutV xs lo hi = xs := by
         unfold cutV
         rw [hw.1, hw.2, List.drop_zero, Nat.sub_zero, List.take_length]
       have z2 := isAll_cut z1 lo hi
       rw [e] at z2
       exact Is.tuple h1 z2
     · refine .inr (.inl ⟨a', xs, rfl, h1, hw, fun p hp => ?_⟩)
       obtain ⟨a1, a2⟩ := out_tup S.ok hp (isAll_cut z1 lo hi)
       exact k _ _ _ (st.trans a1) (Out.ahead S.ok S.p st a2) q
 · split at hr
   · rename_i hl
     cases hr
     cases iv
     exact .inr (.inr (.inr ⟨_, rfl, hl, k _ H3 (.o _) st (Is.str _) q⟩))
   · cases hr
 · cases hr
def lenF : List PyData → Option R
 | [.str x] => if x.length ≤ sizeLine then some (.o (.int x.length)) else none
 | [.list ds] => some (.o (.int ds.length))
 | [.tuple ds] => some (.o (.int ds.length))
 | _ => none
theorem isAll_one {vs : List V} {d : PyData} (h : IsAll K F H vs [d]) : ∃ v, vs = [v] ∧ Is K F H v d := by
 cases h with
 | cons h1 h2 => cases h2; exact ⟨_, rfl, h1⟩
theorem cd_len : CallD K O (fun xs H Q => ∃ x n, xs = [x] ∧ LenV K x H n ∧ Q (.int n) H) (fn1 lenF) := fun H vs ds Q Qd ok p is ⟨r, hr, q⟩ k => by
 unfold lenF at hr
 split at hr
 · split at hr
   · rename_i hl
     obtain ⟨v, rfl, iv⟩ := isAll_one is
     cases iv
     cases hr
     exact ⟨_, _, rfl, ⟨hl, rfl⟩, k _ H (.o _) (.refl _ _) (Is.int _) q⟩
   · cases hr
 · obtain ⟨v, rfl, iv⟩ := isAll_one is
   cases hr
   cases iv with
   | list f1 h1 s1 => exact ⟨_, _, rfl, .inl ⟨_, .of h1, s1.length.symm⟩, k _ H (.o _) (.refl _ _) (Is.int _) q⟩
 · obtain ⟨v, rfl, iv⟩ := isAll_one is
   cases hr
   cases iv with
   | tuple h1 s1 => exact ⟨_, _, rfl, .inr ⟨_, h1, s1.length.symm⟩, k _ H (.o _) (.refl _ _) (Is.int _) q⟩
 · cases hr
def allD (any : Bool) : List PyData → (R → Prop) → Prop := fun ds Q => ∃ bs : List Bool, ds = [.list (bs.map .bool)] ∧ Q (.o (.bool (if any then bs.any id else bs.all id)))
theorem cd_all (any : Bool) : CallD K O (rAll any) (allD any) := fun H vs ds Q Qd ok p is ⟨bs, e, q⟩ k => by
 subst e
 obtain ⟨v, rfl, iv⟩ := isAll_one is
 cases iv with
 | list f1 h1 s1 =>
   rw [isAll_bools s1] at h1
   exact ⟨_, bs, rfl, h1, k _ H (.o _) (.refl _ _) (Is.bool _) q⟩
def int1F : List PyData → Option R
 | [.int i] => some (.o (.int i))
 | [.bool b] => some (.o (.int (if b then 1 else 0)))
 | _ => none
theorem cd_int : CallD K O (fun xs H Q => (∃ i, xs = [.int i] ∧ Q (.int i) H) ∨ ∃ k, xs = [.bl k] ∧ Q (.int (if k then 1 else 0)) H) (fn1 int1F) := fun H vs ds Q Qd ok p is ⟨r, hr, q⟩ k => by
 unfold int1F at hr
 split at hr
 · obtain ⟨v, rfl, iv⟩ := isAll_one is
   cases hr
   cases iv
   exact .inl ⟨_, rfl, k _ H (.o _) (.refl _ _) (Is.int _) q⟩
 · obtain ⟨v, rfl, iv⟩ := isAll_one is
   cases hr
   cases iv
   exact .inr ⟨_, rfl, k _ H (.o _) (.refl _ _) (Is.int _) q⟩
 · cases hr
def rListU (K : PySem.W.Frag) : List V → Hp → VK → Prop := fun xs H Q => rListS xs H Q ∨ (∃ p ys, xs = [.ref p] ∧ (SqL K H p ys ∨ SqT K H p ys) ∧ ∀ l, H l = none → Q (.ref l) (upd H l (.lst ys)))
theorem call_listU {X : Cx} (hc : X.calm = true) : CallR X (.type "list") (rListU X.K) := (call_listS hc).or call_list_of
def listF : List PyData → Option R
 | [.str x] => if x.length ≤ sizeLine then some (.n (sgs x)) else none
 | [.list ds] => some (.n ds)
 | [.tuple ds] => some (.n ds)
 | _ => none
theorem sgs_isAll (x : Str) : IsAll K F H (x.cps.toList.map fun c => V.str (sg c)) (sgs x) := by
 have e := strs_isAll (K := K) (F := F) (H := H) (x.cps.toList.map sg)
 rw [List.map_map, List.map_map] at e
 exact e
theorem cd_list : CallD K O (rListU K) (fn1 listF) := fun H vs ds Q Qd ok p is ⟨r, hr, q⟩ k => by
 unfold listF at hr
 split at hr
 · split at hr
   · rename_i hl
     obtain ⟨v, rfl, iv⟩ := isAll_one is
     cases iv
     cases hr
     refine .inl ⟨_, rfl, hl, fun l hl => ?_⟩
     obtain ⟨a1, a2⟩ := out_list (K := K) ok hl (sgs_isAll _)
     exact k _ _ _ a1 a2 q
   · cases hr
 · obtain ⟨v, rfl, iv⟩ := isAll_one is
   cases hr
   cases iv with
   | list f1 h1 s1 =>
     refine .inr ⟨_, _, rfl, .inl (.of h1), fun l hl => ?_⟩
     obtain ⟨a1, a2⟩ := out_list ok hl s1
     exact k _ _ _ a1 a2 q
 · obtain ⟨v, rfl, iv⟩ := isAll_one is
   cases hr
   cases iv with
   | tuple h1 s1 =>
     refine .inr ⟨_, _, rfl, .inr h1, fun l hl => ?_⟩
     obtain ⟨a1, a2⟩ := out_list ok hl s1
     exact k _ _ _ a1 a2 q
 · cases hr
def tupF : List PyData → Option R
 | [.list ds] => some (.o (.tuple ds))
 | [.tuple ds] => some (.o (.tuple ds))
 | _ => none
theorem cd_tuple : CallD K O (fun xs H Q => ∃ p ys, xs = [.ref p] ∧ ((SqL K H p ys ∧ ∀ l, H l = none → Q (.ref l) (upd H l (.tup ys))) ∨ (SqT K H p ys ∧ Q (.ref p) H))) (fn1 tupF) := fun H vs ds Q Qd ok p is ⟨r, hr, q⟩ k => by
 unfold tupF at hr
 split at hr
 · obtain ⟨v, rfl, iv⟩ := isAll_one is
   cases hr
   cases iv with
   | list f1 h1 s1 =>
     refine ⟨_, _, rfl, .inl ⟨.of h1, fun l hl => ?_⟩⟩
     obtain ⟨a1, a2⟩ := out_tup ok hl s1
     exact k _ _ _ a1 a2 q
 · obtain ⟨v, rfl, iv⟩ := isAll_one is
   cases hr
   cases iv with
   | tuple h1 s1 => exact ⟨_, _, rfl, .inr ⟨h1, k _ H (.o _) (.refl _ _) (Is.tuple h1 s1) q⟩⟩
 · cases hr
def reprF : List PyData → Option R
 | [d] => if (d.showable && !d.hasDict && decide (d.depth ≤ 60) && decide (d.shown.length ≤ sizeLine)) = true then some (.o (.str d.shown)) else none
 | _ => none
theorem cd_repr : CallD K O (rRepr K) (fn1 reprF) := fun H vs ds Q Qd ok p is ⟨r, hr, q⟩ k => by
 unfold reprF at hr
 split at hr
 · split at hr
   · rename_i hc
     cases hr
     obtain ⟨v, rfl, iv⟩ := isAll_one is
     simp only [Bool.and_eq_true, decide_eq_true_eq, Bool.not_eq_true'] at hc
     exact ⟨v, _, _, rfl, iv, hc.1.1.1, hc.1.1.2, hc.1.2, hc.2, k _ H (.o _) (.refl _ _) (Is.str _) q⟩
   · cases hr
 · cases hr
def joinD (fo : DE) (fa : DE) : DE := fun ρ Q => fo ρ fun r0 => ∃ sep, r0.d = .str sep ∧ fa ρ fun r => ∃ ys : List Str, r.d = .list (ys.map .str) ∧ (ys.map (·.length)).sum + ys.length * sep.length ≤ 16777216 ∧ Q (.o (.str (Txt.join sep ys)))
theorem ed_join {to ta : TE} {fo fa : DE} (ho : ED K O to fo) (ha : ED K O ta fa) : ED K O (tBM K "str" rJoin to (tCons ta tNil)) (joinD fo fa) := fun σ H ρ Q Qd S hf k => by
 refine ho σ H ρ _ _ S hf fun v H1 r0 s1 o1 ⟨sep, e0, q1⟩ => ?_
 have i0 := o1.is S.ok S.p
 rw [e0] at i0
 cases i0
 refine ⟨rfl, ?_⟩
 refine ha σ H1 ρ _ _ (S.stp s1) q1 fun w H2 r s2 o2 ⟨ys, e, hz, q⟩ => ?_
 have i1 := o2.is S.ok (s1.p S.p)
 rw [e] at i1
 cases i1 with
 | list f1 h1 z1 =>
   rw [isAll_strs z1] at h1
   exact ⟨sep, _, ys, rfl, rfl, h1, hz, k _ H2 (.o _) (s1.trans s2) (Is.str _) q⟩
end
end L3
namespace L3
open PySem PySem.Spec
open PyProof.Rows hiding St
open L2
structure Ctx3 {ι : Type} (P : Program) (w : World) (K : PySem.W.Frag) (mg : Str → Option Value) (base : Heap) (k : Nat) (X : ι → Cx) : Prop where
 hP : ∀ i, (X i).prog = P
 hw : ∀ i, (X i).w = w
 hK : ∀ i, (X i).K = K
 hmg : ∀ i, (X i).mg = mg
 hb : ∀ i, (X i).base = base
 calm : ∀ i, (X i).calm = true
 room : ∀ i, Room k (X i).A
 xe : ∀ i, (X i).xe = fun _ _ => False
def E3 {ι κ : Type} (K : PySem.W.Frag) (X : ι → Cx) (O : κ → Ob) (e : Expr) (f : DE) : Prop := ∃ t, (∀ i, PE (X i) e t) ∧ ∀ j, ED K (O j) t f
def T3 {ι κ : Type} (K : PySem.W.Frag) (X : ι → Cx) (O : κ → Ob) (e : Expr) (f : DT) : Prop := ∃ t, (∀ i, PT (X i) e t) ∧ ∀ j, TD K (O j) t f
def W3 {ι κ : Type} (K : PySem.W.Frag) (X : ι → Cx) (O : κ → Ob) (e : Expr) (f : DT) : Prop := ∃ t, (∀ i, PW (X i) e t) ∧ ∀ j, TD K (O j) t f
def A3 {ι κ : Type} (K : PySem.W.Frag) (X : ι → Cx) (O : κ → Ob) (es : List Expr) (f : DA) : Prop := ∃ t, (∀ i, PA (X i) es t) ∧ ∀ j, AD K (O j) t f
def I3 {ι κ : Type} (K : PySem.W.Frag) (X : ι → Cx) (O : κ → Ob) (tg e : Expr) (f : DI) : Prop := ∃ t, (∀ i, PI (X i) tg e t) ∧ ∀ j, SrcS K (O j) t f
def J3 {ι κ : Type} (K : PySem.W.Frag) (X : ι → Cx) (O : κ → Ob) (tg e : Expr) (f : DJ) : Prop := ∃ t, (∀ i, PI (X i) tg e t) ∧ ∀ j, SrcR K (O j) t f
def S3 {ι κ : Type} (K : PySem.W.Frag) (X : ι → Cx) (O : κ → Ob) (s : Stmt) (g : DS) : Prop := ∃ t, (∀ i, PS (X i) s t) ∧ ∀ j, SD K (O j) t g
def Ss3 {ι κ : Type} (K : PySem.W.Frag) (X : ι → Cx) (O : κ → Ob) (s : List Stmt) (g : DS) : Prop := ∃ t, (∀ i, PSs (X i) s t) ∧ ∀ j, SD K (O j) t g
def O3 {ι κ : Type} (K : PySem.W.Frag) (X : ι → Cx) (O : κ → Ob) (e : Option Expr) (f : DO) : Prop := ∃ t, (∀ i, PO (X i) e t) ∧ ∀ j, OD K (O j) t f
def G3 {ι : Type} (K : PySem.W.Frag) (X : ι → Cx) (h : Nat) (tg : Expr) (g : DG) : Prop := ∃ t, (∀ i, PG (X i) tg t) ∧ (∀ O : Ob, GS K O t g) ∧ (∀ O : Ob, GR K O t g) ∧ OwnG h t
section
variable {ι κ : Type} {P : Program} {w : World} {K : PySem.W.Frag} {mg : Str → Option Value} {base : Heap} {k : Nat} {X : ι → Cx} {O : κ → Ob} {a b c : Expr} {fa fb fc : DE} {pos : Pos}
theorem e_var (n : Nat) {x : Str} (hN : ∀ i, (X i).N[n]? = some x := by intro i; rfl) (hv : ∀ i, Vis (X i).env.scope x := by intro i; first | exact Or.inl rfl | exact Or.inr (Or.inl rfl) | exact Or.inr (Or.inr rfl))
   (hd : (x == ("__debug__" : Str)) = false := by decide) (hcd : (x == ("__classdict__" : Str)) = false := by decide) : E3 K X O (.Name x pos) (vD n) := ⟨_, fun i => pe_var (hN i) (hv i) hd hcd, fun j => ed_var⟩
theorem e_int {n : Int} {j : Nat} : E3 K X O (.Constant (.int n) j pos) (cD (.int n)) := ⟨_, fun i => pe_int, fun j => ed_int⟩
theorem e_str {x : Str} {j : Nat} : E3 K X O (.Constant (.str x) j pos) (cD (.str x)) := ⟨_, fun i => pe_str, fun j => ed_str⟩
theorem e_bl {x : Bool} {j : Nat} : E3 K X O (.Constant (.bool x) j pos) (cD (.bool x)) := ⟨_, fun i => pe_bl, fun j => ed_bl⟩
theorem e_op {op : Operator} {r : R2} {F : PyData → PyData → (R → Prop) → Prop} (ho : ∀ i, OpR (X i) (binaryOp op) r) (hd : ∀ j, OpD K (O j) r F) (ha : E3 K X O a fa) (hb : E3 K X O b fb) : E3 K X O (.BinOp a op b pos) (opDE F fa fb) :=
 let ⟨_, p1, d1⟩ := ha; let ⟨_, p2, d2⟩ := hb; ⟨_, fun i => pe_op (ho i) (p1 i) (p2 i), fun j => ed_op (hd j) (d1 j) (d2 j)⟩
theorem e_add (C : Ctx3 P w K mg base k X) (ha : E3 K X O a fa) (hb : E3 K X O b fb) : E3 K X O (.BinOp a .Add b pos) (opDE (fn2 addF) fa fb) := e_op (fun i => by have h := op_addU (X := X i); rw [C.hK] at h; exact h) (fun _ => opd_add) ha hb
theorem e_sub (ha : E3 K X O a fa) (hb : E3 K X O b fb) : E3 K X O (.BinOp a .Sub b pos) (opDE (fn2 (intF fun i j => .int (i - j))) fa fb) := e_op (fun i => op_sub) (fun _ => opd_sub) ha hb
theorem e_cmp {op : CmpOp} {r : R2} {F : PyData → PyData → (R → Prop) → Prop} (ho : ∀ i, OpR (X i) (compareOp op) r) (hd : ∀ j, OpD K (O j) r F) (ha : E3 K X O a fa) (hb : E3 K X O b fb) (hm : behindInMarks op b = false) : E3 K X O (.Compare a [op] [b] pos) (opDE F fa fb) :=
 let ⟨_, p1, d1⟩ := ha; let ⟨_, p2, d2⟩ := hb; ⟨_, fun i => pe_cmpR (ho i) (p1 i) (p2 i) hm, fun j => ed_op (hd j) (d1 j) (d2 j)⟩
theorem t_cmp {op : CmpOp} {r : R2} {F : PyData → PyData → (R → Prop) → Prop} (ho : ∀ i, OpR (X i) (compareOp op) r) (hd : ∀ j, OpD K (O j) r F) (ha : E3 K X O a fa) (hb : E3 K X O b fb) (hm : behindInMarks op b = false) : T3 K X O (.Compare a [op] [b] pos) (bD (opDE F fa fb)) :=
 let ⟨_, p1, d1⟩ := ha; let ⟨_, p2, d2⟩ := hb; ⟨_, fun i => pt_cmpR (ho i) (p1 i) (p2 i) hm, fun j => td_val (ed_op (hd j) (d1 j) (d2 j))⟩
theorem oR_eq (C : Ctx3 P w K mg base k X) : ∀ i, OpR (X i) (compareOp .Eq) (rEqD K false) := fun i => by have h := op_eqD (X := X i) (C.room i).units; rw [C.hK] at h; exact h
theorem oR_ne (C : Ctx3 P w K mg base k X) : ∀ i, OpR (X i) (compareOp .NotEq) (rEqD K true) := fun i => by have h := op_neD (X := X i) (C.room i).units; rw [C.hK] at h; exact h
theorem e_eq (C : Ctx3 P w K mg base k X) (ha : E3 K X O a fa) (hb : E3 K X O b fb) : E3 K X O (.Compare a [.Eq] [b] pos) (opDE (fn2 (eqF false)) fa fb) := e_cmp (oR_eq C) (fun _ => opd_eq false) ha hb (nomark b)
theorem e_gt (ha : E3 K X O a fa) (hb : E3 K X O b fb) : E3 K X O (.Compare a [.Gt] [b] pos) (opDE (fn2 (intF fun i j => .bool (decide (j < i)))) fa fb) := e_cmp (fun i => op_gt) (fun _ => opd_gt) ha hb (nomark b)
theorem t_eq (C : Ctx3 P w K mg base k X) (ha : E3 K X O a fa) (hb : E3 K X O b fb) : T3 K X O (.Compare a [.Eq] [b] pos) (bD (opDE (fn2 (eqF false)) fa fb)) := t_cmp (oR_eq C) (fun _ => opd_eq false) ha hb (nomark b)
theorem t_ne (C : Ctx3 P w K mg base k X) (ha : E3 K X O a fa) (hb : E3 K X O b fb) : T3 K X O (.Compare a [.NotEq] [b] pos) (bD (opDE (fn2 (eqF true)) fa fb)) := t_cmp (oR_ne C) (fun _ => opd_eq true) ha hb (nomark b)
theorem t_lt (ha : E3 K X O a fa) (hb : E3 K X O b fb) : T3 K X O (.Compare a [.Lt] [b] pos) (bD (opDE (fn2 (intF fun i j => .bool (decide (i < j)))) fa fb)) := t_cmp (fun i => op_lt) (fun _ => opd_lt) ha hb (nomark b)
theorem t_gt (ha : E3 K X O a fa) (hb : E3 K X O b fb) : T3 K X O (.Compare a [.Gt] [b] pos) (bD (opDE (fn2 (intF fun i j => .bool (decide (j < i)))) fa fb)) := t_cmp (fun i => op_gt) (fun _ => opd_gt) ha hb (nomark b)
variable {ft fu : DT} {rest : List Expr}
theorem t_val (ha : E3 K X O a fa) (he : ∀ i whole, isTrue a (X i).env whole = (do let v ← whole; standAt a.pos; holding [v] (truthy v)) := by intro _ _; rfl) : T3 K X O a (bD fa) := let ⟨_, p, d⟩ := ha; ⟨_, fun i => pt_val (p i) (he i), fun j => td_valB (d j)⟩
theorem t_not (h : T3 K X O a ft) : T3 K X O (.UnaryOp .Not a pos) (notT ft) := let ⟨_, p, d⟩ := h; ⟨_, fun i => pt_not (p i), fun j => td_not (d j)⟩
theorem w_and1 (h : T3 K X O a ft) : W3 K X O (.BoolOp .And [a] pos) ft := let ⟨_, p, d⟩ := h; ⟨_, fun i => pw_and1 (p i), d⟩
theorem w_or1 (h : T3 K X O a ft) : W3 K X O (.BoolOp .Or [a] pos) ft := let ⟨_, p, d⟩ := h; ⟨_, fun i => pw_or1 (p i), d⟩
theorem w_and (h : T3 K X O a ft) (h' : W3 K X O (.BoolOp .And (b :: rest) pos) fu) : W3 K X O (.BoolOp .And (a :: b :: rest) pos) (andT ft fu) := let ⟨_, p, d⟩ := h; let ⟨_, p2, d2⟩ := h'; ⟨_, fun i => pw_and (p i) (p2 i), fun j => td_and (d j) (d2 j)⟩
theorem w_or (h : T3 K X O a ft) (h' : W3 K X O (.BoolOp .Or (b :: rest) pos) fu) : W3 K X O (.BoolOp .Or (a :: b :: rest) pos) (orT ft fu) := let ⟨_, p, d⟩ := h; let ⟨_, p2, d2⟩ := h'; ⟨_, fun i => pw_or (p i) (p2 i), fun j => td_or (d j) (d2 j)⟩
theorem t_w (h : W3 K X O a ft) : T3 K X O a ft := let ⟨_, p, d⟩ := h; ⟨_, fun i => (p i).pt, d⟩
theorem e_one {op : BoolOp} (h : E3 K X O a fa) : E3 K X O (.BoolOp op [a] pos) fa := let ⟨_, p, d⟩ := h; ⟨_, fun i => pe_one (p i), d⟩
theorem e_and (h : E3 K X O a fa) (h' : E3 K X O (.BoolOp .And (b :: rest) pos) fb) : E3 K X O (.BoolOp .And (a :: b :: rest) pos) (andV fa fb) := let ⟨_, p, d⟩ := h; let ⟨_, p2, d2⟩ := h'; ⟨_, fun i => pe_and (p i) (p2 i), fun j => ed_andV (d j) (d2 j)⟩
theorem e_not (h : E3 K X O a fa) : E3 K X O (.UnaryOp .Not a pos) (notV fa) := let ⟨_, p, d⟩ := h; ⟨_, fun i => pe_not (p i), fun j => ed_notV (d j)⟩
variable {es : List Expr} {ga : DA}
theorem a_nil : A3 K X O [] aNil := ⟨_, fun i => pa_nil, fun j => ad_nil⟩
theorem a_cons (ha : E3 K X O a fa) (hr : A3 K X O es ga) (hs : ∀ i, starEach (a :: es) (X i).env = (false, eval a (X i).env) :: starEach es (X i).env := by intro i; rfl) : A3 K X O (a :: es) (aCons fa ga) := let ⟨_, p, d⟩ := ha; let ⟨_, p2, d2⟩ := hr; ⟨_, fun i => pa_cons (p i) (p2 i) (hs i), fun j => ad_cons (d j) (d2 j)⟩
theorem e_tup {n : Nat} (h : A3 K X O es ga) : E3 K X O (.Tuple es n pos) (tupD ga) := let ⟨_, p, d⟩ := h; ⟨_, fun i => pe_tup (p i), fun j => ed_tup (d j)⟩
theorem e_lst (h : A3 K X O es ga) : E3 K X O (.List es pos) (lstD ga) := let ⟨_, p, d⟩ := h; ⟨_, fun i => pe_lst (p i), fun j => ed_lst (d j)⟩
theorem e_idx (C : Ctx3 P w K mg base k X) (ha : E3 K X O a fa) (hb : E3 K X O b fb) (hs : PlainIx b := by intro _ _; rfl) : E3 K X O (.Subscript a b pos) (opDE (fn2 idxF) fa fb) :=
 let ⟨_, p1, d1⟩ := ha; let ⟨_, p2, d2⟩ := hb; ⟨tOp (rIx K) _ _, fun i => by have h := pe_ix (pos := pos) (ix_seq (X := X i)) (p1 i) (p2 i) hs; rw [C.hK] at h; exact h, fun j => ed_op opd_idx (d1 j) (d2 j)⟩
theorem o_none : O3 K X O none noO := ⟨_, fun i => po_none, fun j => od_none⟩
theorem o_some (ha : E3 K X O a fa) : O3 K X O (some a) (someO fa) := let ⟨_, p, d⟩ := ha; ⟨_, fun i => po_some (p i), fun j => od_some (d j)⟩
theorem e_slice (C : Ctx3 P w K mg base k X) {lo hi : Option Expr} {fl fh : DO} {p2 : Pos} (ha : E3 K X O a fa) (hl : O3 K X O lo fl) (hh : O3 K X O hi fh) : E3 K X O (.Subscript a (.Slice lo hi none p2) pos) (slD fa fl fh) :=
 let ⟨_, p1, d1⟩ := ha; let ⟨_, q2, d2⟩ := hl; let ⟨_, q3, d3⟩ := hh; ⟨tSl (rSl K) _ _ _, fun i => by have h := pe_slice (pos := pos) (p2 := p2) (sl_any (X := X i)) (p1 i) (q2 i) (q3 i); rw [C.hK] at h; exact h, fun j => ed_slice (d1 j) (d2 j) (d3 j)⟩
theorem e_blt {x : Str} {id : String} {r : List V → Hp → VK → Prop} {F : List PyData → (R → Prop) → Prop} {p : Pos} (C : Ctx3 P w K mg base k X) (hc : ∀ i, CallR (X i) (.builtin id) r) (hd : ∀ j, CallD K (O j) r F) (hv : bootBuiltins x = some (.builtin id)) (hm : mg x = none) (ha : A3 K X O (a :: es) ga)
   (hg : ∀ i, Gl (X i) x := by intro i; rfl) (hn : x ≠ "__name__" := by decide) (hdb : (x == ("__debug__" : Str)) = false := by decide) (he : ∀ i, starEach (a :: es) (X i).env = (false, eval a (X i).env) :: starEach es (X i).env := by intro i; rfl) (hpl : ∀ i, (backTo pos (starEach es (X i).env)).any (·.1) = false := by intro i; rfl) :
   E3 K X O (.Call (.Name x p) (a :: es) [] pos) (callDE F ga) := let ⟨_, q, d⟩ := ha; ⟨_, fun i => pe_callB (hc i) (hg i) (by rw [C.hmg]; exact hm) hv (q i) hn hdb (he i) (hpl i), fun j => ed_callB (hd j) (d j)⟩
theorem e_bty {x : Str} {T : String} {r : List V → Hp → VK → Prop} {F : List PyData → (R → Prop) → Prop} {p : Pos} (C : Ctx3 P w K mg base k X) (hc : ∀ i, CallR (X i) (.type T) r) (hd : ∀ j, CallD K (O j) r F) (hv : bootBuiltins x = some (.type T)) (hm : mg x = none) (ha : A3 K X O (a :: es) ga)
   (hg : ∀ i, Gl (X i) x := by intro i; rfl) (hn : x ≠ "__name__" := by decide) (hdb : (x == ("__debug__" : Str)) = false := by decide) (he : ∀ i, starEach (a :: es) (X i).env = (false, eval a (X i).env) :: starEach es (X i).env := by intro i; rfl) (hpl : ∀ i, (backTo pos (starEach es (X i).env)).any (·.1) = false := by intro i; rfl) :
   E3 K X O (.Call (.Name x p) (a :: es) [] pos) (callDE F ga) := let ⟨_, q, d⟩ := ha; ⟨_, fun i => pe_callTy (hc i) (hg i) (by rw [C.hmg]; exact hm) hv (q i) hn hdb (he i) (hpl i), fun j => ed_callB (hd j) (d j)⟩
end
end L3
namespace L3
open PySem PySem.Spec
open PyProof.Rows hiding St
open L2
theorem bt_len : bootBuiltins "len" = some (.builtin "len") := by decide +kernel
theorem bt_all : bootBuiltins "all" = some (.builtin "all") := by decide +kernel
theorem bt_sorted : bootBuiltins "sorted" = some (.builtin "sorted") := by decide +kernel
theorem bt_repr : bootBuiltins "repr" = some (.builtin "repr") := by decide +kernel
theorem bt_int : bootBuiltins "int" = some (.type "int") := by decide +kernel
theorem bt_list : bootBuiltins "list" = some (.type "list") := by decide +kernel
theorem bt_tuple : bootBuiltins "tuple" = some (.type "tuple") := by decide +kernel
structure Blt (mg : Str → Option Value) : Prop where
 len : mg "len" = none
 all : mg "all" = none
 any : mg "any" = none
 sorted : mg "sorted" = none
 min : mg "min" = none
 max : mg "max" = none
 repr : mg "repr" = none
 int : mg "int" = none
 list : mg "list" = none
 tuple : mg "tuple" = none
 range : mg "range" = none
 set : mg "set" = none
 isinstance : mg "isinstance" = none
 enumerate : mg "enumerate" = none
 zip : mg "zip" = none
 reversed : mg "reversed" = none
 str : mg "str" = none
 sum : mg "sum" = none
 dict : mg "dict" = none
 bool : mg "bool" = none
structure Def3 (P : Program) (w : World) (K : PySem.W.Frag) (mg : Str → Option Value) (base : Heap) (k : Nat) (x : Str) (ps : List Str) (sp : Sp) : Prop where
 ex : ∃ f fd, FnOk P w K mg base CX0 k f fd ps sp ∧ mg x = some (.ref f) ∧ PySem.W.keepIn K (.ref f) = true ∧ Binds K fd ps []
structure Top3 (K : PySem.W.Frag) (mg : Str → Option Value) (x : Str) (st : Stmt) : Prop where
 ex : ∃ f fd, Fun K x x st f fd ∧ mg x = some (.ref f)
structure CIx where
 C : Addr
 s : Shared
 H : Hp
 ex : List Addr
def compX {ι : Type} (X : ι → Cx) (scope : Scope) (N' : List Str) : ι × CIx → Cx := fun p => compCx (X p.1) scope N' p.2.C p.2.s p.2.H p.2.ex
def compO {κ : Type} (O : κ → Ob) : { p : κ × (Addr × List V) // ¬ (O p.1).M p.2.1 } → Ob := fun p => (O p.1.1).plus p.1.2.1 (.lst p.1.2.2)
def F3 {ι κ : Type} (K : PySem.W.Frag) (X : ι → Cx) (O : κ → Ob) (ifs : List Expr) (f : DT) : Prop := ∃ t, (∀ i, PF (X i) ifs t) ∧ ∀ j, TD K (O j) t f
def yesD : DT := fun _ Q => Q true
section
variable {ι κ : Type} {P : Program} {w : World} {K : PySem.W.Frag} {mg : Str → Option Value} {base : Heap} {k : Nat} {X : ι → Cx} {O : κ → Ob} {a b c tg : Expr} {fa fb fc : DE} {pos p : Pos} {es : List Expr} {ga : DA}
theorem Ctx3.comp (C : Ctx3 P w K mg base k X) (scope : Scope) (N' : List Str) : Ctx3 P w K mg base k (compX X scope N') := ⟨fun i => C.hP i.1, fun i => C.hw i.1, fun i => C.hK i.1, fun i => C.hmg i.1, fun i => C.hb i.1, fun i => C.calm i.1, fun i => C.room i.1, fun _ => rfl⟩
theorem e_len (C : Ctx3 P w K mg base k X) (B : Blt mg) (ha : A3 K X O [a] ga) (hg : ∀ i, Gl (X i) "len" := by intro i; rfl) (he : ∀ i, starEach [a] (X i).env = (false, eval a (X i).env) :: starEach [] (X i).env := by intro i; rfl) : E3 K X O (.Call (.Name "len" p) [a] [] pos) (callDE (fn1 lenF) ga) :=
 e_blt C (fun i => by have h := call_len (X := X i); rw [C.hK] at h; exact h) (fun _ => cd_len) bt_len B.len ha hg (by decide) (by decide) he
theorem e_all (C : Ctx3 P w K mg base k X) (B : Blt mg) (ha : A3 K X O [a] ga) (hg : ∀ i, Gl (X i) "all" := by intro i; rfl) (he : ∀ i, starEach [a] (X i).env = (false, eval a (X i).env) :: starEach [] (X i).env := by intro i; rfl) : E3 K X O (.Call (.Name "all" p) [a] [] pos) (callDE (allD false) ga) :=
 e_blt C (fun i => call_allL (C.calm i)) (fun _ => cd_all false) bt_all B.all ha hg (by decide) (by decide) he
theorem e_repr (C : Ctx3 P w K mg base k X) (B : Blt mg) (ha : A3 K X O [a] ga) (hg : ∀ i, Gl (X i) "repr" := by intro i; rfl) (he : ∀ i, starEach [a] (X i).env = (false, eval a (X i).env) :: starEach [] (X i).env := by intro i; rfl) : E3 K X O (.Call (.Name "repr" p) [a] [] pos) (callDE (fn1 reprF) ga) :=
 e_blt C (fun i => by have h := call_reprD (X := X i) (C.room i).gd (C.room i).units; rw [C.hK] at h; exact h) (fun _ => cd_repr) bt_repr B.repr ha hg (by decide) (by decide) he
theorem e_intc (C : Ctx3 P w K mg base k X) (B : Blt mg) (ha : A3 K X O [a] ga) (hg : ∀ i, Gl (X i) "int" := by intro i; rfl) (he : ∀ i, starEach [a] (X i).env = (false, eval a (X i).env) :: starEach [] (X i).env := by intro i; rfl) : E3 K X O (.Call (.Name "int" p) [a] [] pos) (callDE (fn1 int1F) ga) :=
 e_bty C (fun i => call_int1) (fun _ => cd_int) bt_int B.int ha hg (by decide) (by decide) he
theorem e_listc (C : Ctx3 P w K mg base k X) (B : Blt mg) (ha : A3 K X O [a] ga) (hg : ∀ i, Gl (X i) "list" := by intro i; rfl) (he : ∀ i, starEach [a] (X i).env = (false, eval a (X i).env) :: starEach [] (X i).env := by intro i; rfl) : E3 K X O (.Call (.Name "list" p) [a] [] pos) (callDE (fn1 listF) ga) :=
 e_bty C (fun i => by have h := call_listU (X := X i) (C.calm i); rw [C.hK] at h; exact h) (fun _ => cd_list) bt_list B.list ha hg (by decide) (by decide) he
theorem e_tuplec (C : Ctx3 P w K mg base k X) (B : Blt mg) (ha : A3 K X O [a] ga) (hg : ∀ i, Gl (X i) "tuple" := by intro i; rfl) (he : ∀ i, starEach [a] (X i).env = (false, eval a (X i).env) :: starEach [] (X i).env := by intro i; rfl) : E3 K X O (.Call (.Name "tuple" p) [a] [] pos) (callDE (fn1 tupF) ga) :=
 e_bty C (fun i => by have h := call_tuple_of (X := X i); rw [C.hK] at h; exact h) (fun _ => cd_tuple) bt_tuple B.tuple ha hg (by decide) (by decide) he
theorem mtr_join {X : Cx} : MtR X "str.join" rJoin := fun pins s σ H x xs v us Q I rx rv h => mt_join pins s σ H x xs v us Q I rx rv h
theorem e_join {apos : Pos} (C : Ctx3 P w K mg base k X) (ho : E3 K X O a fa) (hb : E3 K X O b fb) (hbase : ∀ i, attributeBase a "join" (X i).env (eval a (X i).env) = eval a (X i).env := by intro i; rfl)
   (hfew : ∀ i, ((backTo pos (starEach [b] (X i).env)).all (fun x => !x.1) && (backToKw pos (keywordEach [] (X i).env)).all (fun x => x.1.isSome) && decide (([b] : List Expr).length + ([] : List Keyword).length + (if ([] : List Keyword).isEmpty then 0 else 1) < 30)) = true := by intro i; rfl)
   (hline : (apos.endLine == pos.line) = true := by rfl) (hs : ∀ i, starEach [b] (X i).env = [(false, eval b (X i).env)] := by intro i; rfl) : E3 K X O (.Call (.Attribute a "join" apos) [b] [] pos) (joinD fa fb) :=
 let ⟨_, p1, d1⟩ := ho; let ⟨_, p2, d2⟩ := hb; ⟨tBM K "str" rJoin _ (tCons _ tNil), fun i => by
   have h := pe_bm (apos := apos) (cpos := pos) PySem.F.plainAttrs_str PySem.F.slot_str_join PySem.F.type_str_join (mtr_join (X := X i)) (p1 i) (pa_cons (p2 i) pa_nil (hs i)) (hbase i) (hfew i) hline (hs i)
   rw [C.hK] at h
   exact h, fun j => ed_join (d1 j) (d2 j)⟩
theorem e_call {k' n : Nat} {x : Str} {ps : List Str} {φ : Ob → Prop} {F : List PyData → (R → Prop) → Prop} (C : Ctx3 P w K mg base k X) (D : Def3 P w K mg base k' x ps (spO K φ n F)) (hφ : ∀ j, φ (O j)) (ha : A3 K X O (a :: es) ga) (hk : k' ≤ k := by decide) (hg : ∀ i, Gl (X i) x := by intro i; rfl)
   (hdb : (x == ("__debug__" : Str)) = false := by decide) (he : ∀ i, starEach (a :: es) (X i).env = (false, eval a (X i).env) :: starEach es (X i).env := by intro i; rfl) (hpl : ∀ i, (backTo pos (starEach es (X i).env)).any (·.1) = false := by intro i; rfl) : E3 K X O (.Call (.Name x p) (a :: es) [] pos) (calD n F ga) := by
 obtain ⟨f, fd, G, m, kp, bn⟩ := D.ex
 obtain ⟨t, q, d⟩ := ha
 refine ⟨tCall (spO K φ n F) [] E0 t, fun i => ?_, fun j => ed_call (hφ j) (d j)⟩
 have G' : FnOk (X i).prog (X i).w (X i).K (X i).mg (X i).base CX0 k f fd ps (spO K φ n F) := by rw [C.hP, C.hw, C.hK, C.hmg, C.hb]; exact G.mono hk
 exact pe_call G' (C.room i) (hg i) (by rw [C.hmg]; exact m) (by rw [C.hK]; exact kp) (by rw [C.hK]; exact bn) .nil pass0 (q i) hdb (he i) (hpl i)
theorem e_callO {k' n : Nat} (v : Nat) {x y : Str} {py : Pos} {ps : List Str} {φ : Ob → Prop} {F : List PyData → (R → Prop) → Prop} (C : Ctx3 P w K mg base k X) (D : Def3 P w K mg base k' x ps (spD K φ n F)) (hφ : ∀ j, φ (O j)) (ha : A3 K X O es ga) (hk : k' ≤ k := by decide) (hg : ∀ i, Gl (X i) x := by intro i; rfl)
   (hN : ∀ i, (X i).N[v]? = some y := by intro i; rfl) (hv : ∀ i, Vis (X i).env.scope y := by intro i; first | exact Or.inl rfl | exact Or.inr (Or.inl rfl) | exact Or.inr (Or.inr rfl)) (hd : (y == ("__debug__" : Str)) = false := by decide) (hcd : (y == ("__classdict__" : Str)) = false := by decide)
   (hdb : (x == ("__debug__" : Str)) = false := by decide) (he : ∀ i, starEach (.Name y py :: es) (X i).env = (false, eval (.Name y py) (X i).env) :: starEach es (X i).env := by intro i; rfl) (hpl : ∀ i, (backTo pos (starEach es (X i).env)).any (·.1) = false := by intro i; rfl) :
   E3 K X O (.Call (.Name x p) (.Name y py :: es) [] pos) (calO v n F ga) := by
 obtain ⟨f, fd, G, m, kp, bn⟩ := D.ex
 obtain ⟨t, q, d⟩ := ha
 refine ⟨tCall (spD K φ n F) [] E0 (tCons (tVar v) t), fun i => ?_, fun j => ed_callO (hφ j) (d j)⟩
 have G' : FnOk (X i).prog (X i).w (X i).K (X i).mg (X i).base CX0 k f fd ps (spD K φ n F) := by rw [C.hP, C.hw, C.hK, C.hmg, C.hb]; exact G.mono hk
 exact pe_call G' (C.room i) (hg i) (by rw [C.hmg]; exact m) (by rw [C.hK]; exact kp) (by rw [C.hK]; exact bn) .nil pass0 (pa_cons (pe_var (hN i) (hv i) hd hcd) (q i) (he i)) hdb (he i) (hpl i)
theorem i_list (C : Ctx3 P w K mg base k X) (ha : E3 K X O a fa) : I3 K X O tg a (srcL fa) := let ⟨_, p, d⟩ := ha; ⟨iList K _, fun i => by have h := pi_list (tg := tg) (p i); rw [C.hK] at h; exact h, fun j => src_list (d j)⟩
theorem i_tup (C : Ctx3 P w K mg base k X) (ha : E3 K X O a fa) : I3 K X O tg a (srcT fa) := let ⟨_, p, d⟩ := ha; ⟨iTup K _, fun i => by have h := pi_tup (tg := tg) (p i); rw [C.hK] at h; exact h, fun j => src_tup (d j)⟩
theorem i_r1 (C : Ctx3 P w K mg base k X) (B : Blt mg) (ha : A3 K X O [a] ga) (hg : ∀ i, Gl (X i) "range" := by intro i; rfl) (hs : ∀ i, starEach [a] (X i).env = [(false, eval a (X i).env)] := by intro i; rfl) : I3 K X O tg (.Call (.Name "range" p) [a] [] pos) (srcR1 ga) :=
 let ⟨_, q, d⟩ := ha; ⟨_, fun i => pi_range1 (hg i) (by rw [C.hmg]; exact B.range) (q i) (hs i), fun j => src_rng1 (d j)⟩
theorem j_new {fi : DI} (h : I3 K X O tg a fi) : J3 K X O tg a (newJ fi) := let ⟨_, p, d⟩ := h; ⟨_, p, fun j => srcR_of (d j)⟩
theorem g_name {h : Nat} (n : Nat) {x : Str} (hlt : n < h := by decide) (hN : ∀ i, (X i).N.Nodup := by intro i; exact of_decide_eq_true (by kernel_rfl)) (hi : ∀ i, (X i).N[n]? = some x := by intro i; rfl) (hx : ∀ i, Loc (X i).env.scope x := by intro i; first | exact Or.inl rfl | exact Or.inr rfl)
   (hf : ∀ i, (X i).fn x = true ∨ (X i).env.scope.names.lookup x = some .local := by intro i; first | exact .inl rfl | exact .inr rfl) : G3 K X h (.Name x pos) (gN n) := ⟨_, fun i => pg_name (hN i) (hi i) (hx i) (hf i), fun _ => gs_name, fun _ => gr_name, own_name hlt⟩
def Gs3 {ι : Type} (K : PySem.W.Frag) (X : ι → Cx) (h : Nat) (es : List Expr) (is : List Nat) : Prop := ∃ t, (∀ i, PGs (X i) es t) ∧ (∀ O : Ob, GSs K O t is) ∧ (∀ O : Ob, GRs K O t is) ∧ OwnGs h t ∧ MonGs t
theorem gq_nil {h : Nat} : Gs3 K X h [] [] := ⟨_, fun i => pgs_nil, fun _ => gss_nil, fun _ => grs_nil, own_nil, mon_nil⟩
theorem gq_cons {h : Nat} {es : List Expr} {is : List Nat} (n : Nat) {x : Str} (hr : Gs3 K X h es is) (hlt : n < h := by decide) (hN : ∀ i, (X i).N.Nodup := by intro i; exact of_decide_eq_true (by kernel_rfl)) (hi : ∀ i, (X i).N[n]? = some x := by intro i; rfl) (hx : ∀ i, Loc (X i).env.scope x := by intro i; first | exact Or.inl rfl | exact Or.inr rfl)
   (hf : ∀ i, (X i).fn x = true ∨ (X i).env.scope.names.lookup x = some .local := by intro i; first | exact .inl rfl | exact .inr rfl) (hs : ∀ i, (assignEach (.Name x pos :: es) (X i).env).map (·.2) = assign (.Name x pos) (X i).env :: (assignEach es (X i).env).map (·.2) := by intro i; rfl) : Gs3 K X h (.Name x pos :: es) (n :: is) :=
 let ⟨_, p, d1, d2, o, m⟩ := hr; ⟨_, fun i => pgs_cons (pg_name (hN i) (hi i) (hx i) (hf i)) (p i) (hs i), fun O => gss_cons (d1 O), fun O => grs_cons (d2 O), own_cons mon_name m (own_name hlt) o, mon_cons mon_name m⟩
theorem g_tup {h n : Nat} {es : List Expr} {is : List Nat} {j : Nat} (C : Ctx3 P w K mg base k X) (hr : Gs3 K X h es is) (hn : is.length = n := by rfl) (hn2 : ∀ i, (assignEach es (X i).env).length = n := by intro i; rfl) (hst : ∀ i, (assignEach es (X i).env).findIdx? (·.1) = none := by intro i; rfl) : G3 K X h (.Tuple es j pos) (gT is) :=
 let ⟨_, p, d1, d2, o, m⟩ := hr; ⟨_, fun i => by have z := pg_tup (pos := pos) (k := j) (C.calm i) (p i) (hn2 i) (hst i); rw [C.hK] at z; exact z, fun O => gs_tup hn (d1 O), fun O => gr_tup hn (d2 O), own_tup o⟩
theorem f_nil {O' : κ → Ob} : F3 K X O' [] yesD := ⟨_, fun i => pf_nil, fun j σ H ρ Q Qd S h k => k true H (.refl _ _) h⟩
theorem f_one {ft : DT} (h : T3 K X O c ft) : F3 K X O [c] ft := let ⟨_, p, d⟩ := h; ⟨_, fun i => pf_one (p i), d⟩
theorem e_comp {elt iter : Expr} {ifs : List Expr} {scope : Scope} {fi : DI} {g : DG} {ft : DT} {fe : DE} (h : Nat) (N' : List Str) (C : Ctx3 P w K mg base k X) (S : ∀ i, ScopeOk h N' (X i).N scope (X i).env.scope) (hs : I3 K X O tg iter fi)
   (hg : G3 K (compX X scope N') h tg g) (hf : F3 K (compX X scope N') (compO O) ifs ft) (he : E3 K (compX X scope N') (compO O) elt fe) (hset : ∀ i x, foldedSetIterable iter (X i).env x = pure x := by intro _ _; rfl) :
   E3 K X O (.ListComp elt [⟨tg, iter, ifs, 0⟩] scope pos) (compD h fi g ft fe) := by
 obtain ⟨ti, p1, d1⟩ := hs
 obtain ⟨tg', p2, d2, _, ow⟩ := hg
 obtain ⟨tf, p3, d3⟩ := hf
 obtain ⟨te, p4, d4⟩ := he
 exact ⟨_, fun i => pe_comp h (S i) (C.calm i) (p1 i) (fun c s H ex => p2 (i, ⟨c, s, H, ex⟩)) ow (fun c s H ex => p3 (i, ⟨c, s, H, ex⟩)) (fun c s H ex => p4 (i, ⟨c, s, H, ex⟩)) (hset i), fun j => ed_comp (d1 j) d2 (fun D xs nm => d3 ⟨(j, (D, xs)), nm⟩) fun D xs nm => d4 ⟨(j, (D, xs)), nm⟩⟩
variable {st : Stmt} {sts : List Stmt} {g1 g2 : DS} {ft : DT}
theorem ss_nil : Ss3 K X O [] (fun Dd ρ => Dd.nx ρ) := ⟨_, fun i => pss_nil, fun j => sd_next⟩
theorem ss_one (h : S3 K X O st g1) : Ss3 K X O [st] g1 := let ⟨_, p, d⟩ := h; ⟨_, fun i => pss_one (p i), d⟩
theorem ss_cons (h : S3 K X O st g1) (h' : Ss3 K X O sts g2) : Ss3 K X O (st :: sts) (seqD g1 g2) := let ⟨_, p, d⟩ := h; let ⟨_, p2, d2⟩ := h'; ⟨_, fun i => pss_cons (p i) (p2 i), fun j => sd_seq (d j) (d2 j)⟩
theorem s_ret (ha : E3 K X O a fa) : S3 K X O (.Return (some a) pos) (retS fa) := let ⟨_, p, d⟩ := ha; ⟨_, fun i => ps_ret (p i), fun j => sd_ret (d j)⟩
theorem s_retO (n : Nat) {x : Str} {px : Pos} (hN : ∀ i, (X i).N[n]? = some x := by intro i; rfl) (hv : ∀ i, Vis (X i).env.scope x := by intro i; first | exact Or.inl rfl | exact Or.inr (Or.inl rfl) | exact Or.inr (Or.inr rfl)) (hd : (x == ("__debug__" : Str)) = false := by decide) (hcd : (x == ("__classdict__" : Str)) = false := by decide) :
   S3 K X O (.Return (some (.Name x px)) pos) (retO n) := ⟨_, fun i => ps_ret (pe_var (hN i) (hv i) hd hcd), fun j => sd_retOwn⟩
theorem s_if {sa sb : List Stmt} (hc : T3 K X O c ft) (h : Ss3 K X O sa g1) (h' : Ss3 K X O sb g2) : S3 K X O (.If c sa sb pos) (ifS ft g1 g2) := let ⟨_, p, d⟩ := hc; let ⟨_, p1, d1⟩ := h; let ⟨_, p2, d2⟩ := h'; ⟨_, fun i => ps_if (p i) (p1 i) (p2 i), fun j => sd_if (d j) (d1 j) (d2 j)⟩
theorem s_set (n : Nat) {x : Str} {px : Pos} (ha : E3 K X O a fa) (hN : ∀ i, (X i).N.Nodup := by intro i; exact of_decide_eq_true (by kernel_rfl)) (hi : ∀ i, (X i).N[n]? = some x := by intro i; rfl) (hx : ∀ i, Loc (X i).env.scope x := by intro i; first | exact Or.inl rfl | exact Or.inr rfl)
   (hs : ∀ i, swapsWith a (some (.Name x px)) pos.line (X i).env = pure false := by intro i; rfl) (hf : ∀ i, (X i).fn x = true ∨ (X i).env.scope.names.lookup x = some .local := by intro i; first | exact .inl rfl | exact .inr rfl) : S3 K X O (.Assign [.Name x px] a pos) (asgS n fa) :=
 let ⟨_, p, d⟩ := ha; ⟨_, fun i => ps_set (hN i) (hi i) (hx i) (p i) (hs i) (hf i), fun j => sd_asg (d j)⟩
theorem s_setC (n : Nat) {x : Str} {px p0 : Pos} {elt iter : Expr} {ifs : List Expr} {scope : Scope} {fi : DI} {g : DG} {ft : DT} {fe : DE} (h : Nat) (N' : List Str) (C : Ctx3 P w K mg base k X) (S : ∀ i, ScopeOk h N' (X i).N scope (X i).env.scope) (hs : I3 K X O tg iter fi)
   (hg : G3 K (compX X scope N') h tg g) (hf : F3 K (compX X scope N') (compO O) ifs ft) (he : E3 K (compX X scope N') (compO O) elt fe) (hN : ∀ i, (X i).N.Nodup := by intro i; exact of_decide_eq_true (by kernel_rfl)) (hi : ∀ i, (X i).N[n]? = some x := by intro i; rfl) (hx : ∀ i, (X i).env.scope.names.lookup x = some .local := by intro i; rfl)
   (hsw : ∀ i, swapsWith (.ListComp elt [⟨tg, iter, ifs, 0⟩] scope p0) (some (.Name x px)) pos.line (X i).env = pure true := by intro i; rfl) (hset : ∀ i x, foldedSetIterable iter (X i).env x = pure x := by intro _ _; rfl) :
   S3 K X O (.Assign [.Name x px] (.ListComp elt [⟨tg, iter, ifs, 0⟩] scope p0) pos) (asgS n (compD h fi g ft fe)) := by
 obtain ⟨ti, p1, d1⟩ := hs
 obtain ⟨tg', p2, d2, _, ow⟩ := hg
 obtain ⟨tf, p3, d3⟩ := hf
 obtain ⟨te, p4, d4⟩ := he
 exact ⟨_, fun i => ps_setComp (hN i) (hi i) (hx i) (hsw i) h (S i) (C.calm i) (p1 i) (fun c s H ex => p2 (i, ⟨c, s, H, ex⟩)) ow (fun c s H ex => p3 (i, ⟨c, s, H, ex⟩)) (fun c s H ex => p4 (i, ⟨c, s, H, ex⟩)) (hset i), fun j => sd_asg (ed_comp (d1 j) d2 (fun D xs nm => d3 ⟨(j, (D, xs)), nm⟩) fun D xs nm => d4 ⟨(j, (D, xs)), nm⟩)⟩
theorem mtr_append {X : Cx} : MtR X "list.append" rAppend := fun pins s σ H x xs v us Q I rx rv h => mt_append pins s σ H x xs v us Q I rx rv h
theorem s_app (n : Nat) {x : Str} {px apos cpos : Pos} (C : Ctx3 P w K mg base k X) (hb : E3 K X O b fb) (hN : ∀ i, (X i).N[n]? = some x := by intro i; rfl) (hv : ∀ i, Vis (X i).env.scope x := by intro i; first | exact Or.inl rfl | exact Or.inr (Or.inl rfl) | exact Or.inr (Or.inr rfl)) (hd : (x == ("__debug__" : Str)) = false := by decide) (hcd : (x == ("__classdict__" : Str)) = false := by decide)
   (hbase : ∀ i, attributeBase (.Name x px) "append" (X i).env (eval (.Name x px) (X i).env) = eval (.Name x px) (X i).env := by intro i; rfl)
   (hfew : ∀ i, ((backTo cpos (starEach [b] (X i).env)).all (fun x => !x.1) && (backToKw cpos (keywordEach [] (X i).env)).all (fun x => x.1.isSome) && decide (([b] : List Expr).length + ([] : List Keyword).length + (if ([] : List Keyword).isEmpty then 0 else 1) < 30)) = true := by intro i; rfl)
   (hline : (apos.endLine == cpos.line) = true := by rfl) (hs : ∀ i, starEach [b] (X i).env = [(false, eval b (X i).env)] := by intro i; rfl) (hsw : ∀ i, swapsWith (.Call (.Attribute (.Name x px) "append" apos) [b] [] cpos) none pos.line (X i).env = pure false := by intro i; rfl) :
   S3 K X O (.Expr (.Call (.Attribute (.Name x px) "append" apos) [b] [] cpos) pos) (appS n fb) := let ⟨_, p2, d2⟩ := hb;
 ⟨tDrop (tBM K "list" rAppend (tVar n) (tCons _ tNil)), fun i => by
   have h := pe_bm (apos := apos) (cpos := cpos) PySem.F.plainAttrs_list PySem.F.slot_list_append PySem.F.type_list_append (mtr_append (X := X i)) (pe_var (pos := px) (hN i) (hv i) hd hcd) (pa_cons (p2 i) pa_nil (hs i)) (hbase i) (hfew i) hline (hs i)
   rw [C.hK] at h
   exact ps_expr h (hsw i), fun j => sd_append (d2 j)⟩
theorem passes_never {X : Cx} (h : X.xe = fun _ _ => False) : PassesOwn (model X.prog X.w) X.A X.env X.xe := by rw [h]; exact PassesOwn.never
theorem s_for {iter : Expr} {body : List Stmt} {fj : DJ} {g : DG} {hh : Nat} (C : Ctx3 P w K mg base k X) (hi : J3 K X O tg iter fj) (hg : G3 K X hh tg g) (hb : Ss3 K X O body g1) (hs : ∀ i x, foldedSetIterable iter (X i).env x = pure x := by intro _ _; rfl) : S3 K X O (.For tg iter body [] pos) (forS fj g g1) := by
 obtain ⟨ti, p1, d1⟩ := hi
 obtain ⟨tg', p2, _, d2, _⟩ := hg
 obtain ⟨tb, p3, d3⟩ := hb
 exact ⟨_, fun i => ps_for (passes_never (C.xe i)) (C.calm i) (p1 i) (p2 i) (p3 i) (hs i), fun j => sd_for (d1 j) (d2 (O j)) (d3 j)⟩
theorem s_while {body : List Stmt} (C : Ctx3 P w K mg base k X) (hc : T3 K X O c ft) (hb : Ss3 K X O body g1) : S3 K X O (.While c body [] pos) (whileS ft g1) := let ⟨_, p, d⟩ := hc; let ⟨_, p2, d2⟩ := hb; ⟨_, fun i => ps_while (passes_never (C.xe i)) (p i) (p2 i), fun j => sd_while (d j) (d2 j)⟩
end
theorem len1 {fd : FuncData} {p0 : Str} {us : List Value} (hl : us.length = 1) (h : ∀ u0, bindArgs fd ⟨[u0], []⟩ = pure ([p0].zip [u0])) : bindArgs fd ⟨us, []⟩ = pure ([p0].zip us) := by
 match us, hl with
 | [u0], _ => exact h u0
theorem len2 {fd : FuncData} {p0 p1 : Str} {us : List Value} (hl : us.length = 2) (h : ∀ u0 u1, bindArgs fd ⟨[u0, u1], []⟩ = pure ([p0, p1].zip [u0, u1])) : bindArgs fd ⟨us, []⟩ = pure ([p0, p1].zip us) := by
 match us, hl with
 | [u0, u1], _ => exact h u0 u1
theorem len3 {fd : FuncData} {p0 p1 p2 : Str} {us : List Value} (hl : us.length = 3) (h : ∀ u0 u1 u2, bindArgs fd ⟨[u0, u1, u2], []⟩ = pure ([p0, p1, p2].zip [u0, u1, u2])) : bindArgs fd ⟨us, []⟩ = pure ([p0, p1, p2].zip us) := by
 match us, hl with
 | [u0, u1, u2], _ => exact h u0 u1 u2
theorem len5 {fd : FuncData} {p0 p1 p2 p3 p4 : Str} {us : List Value} (hl : us.length = 5) (h : ∀ u0 u1 u2 u3 u4, bindArgs fd ⟨[u0, u1, u2, u3, u4], []⟩ = pure ([p0, p1, p2, p3, p4].zip [u0, u1, u2, u3, u4])) : bindArgs fd ⟨us, []⟩ = pure ([p0, p1, p2, p3, p4].zip us) := by
 match us, hl with
 | [u0, u1, u2, u3, u4], _ => exact h u0 u1 u2 u3 u4
section
variable {P : Program} {w : World} {K : PySem.W.Frag} {mg : Str → Option Value} {base : Heap} {k n : Nat} {x : Str} {st : Stmt} {N ps : List Str} {φ : Ob → Prop} {F : List PyData → (R → Prop) → Prop}
abbrev bodyX (P : Program) (w : World) (K : PySem.W.Frag) (mg : Str → Option Value) (base : Heap) (N : List Str) (x : Str) (sc : Scope) (f : Addr) (cdv : Value) (A : Around) (outer : List Env) (s : Shared) (H : Hp) (E : XK) : Unit → Cx := fun _ => (cxOf CX0 P w K mg base N x sc f cdv A outer s H E).nox
theorem ctx_body {f : Addr} {cdv : Value} {A : Around} {outer : List Env} {s : Shared} {H : Hp} {E : XK} {sc : Scope} (hr : Room k (A.deeper (envOfC x sc s.heap.objs.size f cdv))) : Ctx3 P w K mg base k (bodyX P w K mg base N x sc f cdv A outer s H E) :=
 ⟨fun _ => rfl, fun _ => rfl, fun _ => rfl, fun _ => rfl, fun _ => rfl, fun _ => rfl, fun _ => hr, fun _ => rfl⟩
theorem mk_O (T : Top3 K mg x st) (S : FnScope N ps (defScope st)) (hb : ∀ (kV doc pm : Value) (an : Option Addr) (cdv ct : Value) (us : List Value), us.length = ps.length → bindArgs (PySem.W.fnOf x x (defArgs st) (defBody st) (defScope st) .none kV doc pm an cdv ct) ⟨us, []⟩ = pure (ps.zip us)) (hn : ps.length = n)
   (body : ∀ (f : Addr) (cdv : Value) (A : Around) (outer : List Env) (s : Shared) (H : Hp) (E : XK) (O : Ob), φ O → Ctx3 P w K mg base k (bodyX P w K mg base N x (defScope st) f cdv A outer s H E) →
     ∃ g, Ss3 K (bodyX P w K mg base N x (defScope st) f cdv A outer s H E) (fun _ : Unit => O) (defBody st) g ∧ ∀ ds Qr, ds.length = n → F ds Qr → g { nx := fun _ => Qr (.o .none), rt := Qr } (dstart N (ds.map .im))) : Def3 P w K mg base (k + 1) x ps (spO K φ n F) := by
 obtain ⟨f, fd, Fu, m⟩ := T.ex
 refine ⟨f, fd, Fu.ok S (spO_len hn) (fun cdv A outer s H vs Q E hr h => ?_), m, Fu.kp, Fu.binds hb⟩
 obtain ⟨O, ds, Qr, ok, hφ, p, hl, is, q, kk⟩ := h
 obtain ⟨g, ⟨t, h1, h2⟩, h3⟩ := body f cdv A outer s H E O hφ (ctx_body hr)
 exact ⟨t, h1 (), run_O (h2 ()) ok p is (h3 ds Qr hl q) kk⟩
theorem mk_D (T : Top3 K mg x st) (S : FnScope N ps (defScope st)) (hb : ∀ (kV doc pm : Value) (an : Option Addr) (cdv ct : Value) (us : List Value), us.length = ps.length → bindArgs (PySem.W.fnOf x x (defArgs st) (defBody st) (defScope st) .none kV doc pm an cdv ct) ⟨us, []⟩ = pure (ps.zip us)) (hn : ps.length = n + 1)
   (body : ∀ (f : Addr) (cdv : Value) (A : Around) (outer : List Env) (s : Shared) (H : Hp) (E : XK) (O : Ob), φ O → Ctx3 P w K mg base k (bodyX P w K mg base N x (defScope st) f cdv A outer s H E) →
     ∃ g, Ss3 K (bodyX P w K mg base N x (defScope st) f cdv A outer s H E) (fun _ : Unit => O) (defBody st) g ∧ ∀ ds Qr, ds.length = n → F ds Qr → g { nx := fun _ => Qr (.o .none), rt := Qr } (dstart N (.ob :: ds.map .im))) : Def3 P w K mg base (k + 1) x ps (spD K φ n F) := by
 obtain ⟨f, fd, Fu, m⟩ := T.ex
 refine ⟨f, fd, Fu.ok S (spD_len hn) (fun cdv A outer s H vs Q E hr h => ?_), m, Fu.kp, Fu.binds hb⟩
 obtain ⟨O, ds, ws, Qr, ok, hφ, p, hl, rfl, is, q, kk⟩ := h
 obtain ⟨g, ⟨t, h1, h2⟩, h3⟩ := body f cdv A outer s H E O hφ (ctx_body hr)
 exact ⟨t, h1 (), run_D (h2 ()) ok p is (h3 ds Qr hl q) kk⟩
end
end L3
namespace L3
open PySem PySem.Spec
open PyProof.Rows hiding St
open L2
structure PotStp (a l : Addr) (H H' : Hp) : Prop where
 oth : ∀ b, b ≠ a → b ≠ l → H' b = H b
theorem PotStp.refl (a l : Addr) (H : Hp) : PotStp a l H H := ⟨fun _ _ _ => rfl⟩
theorem PotStp.trans {a l : Addr} {H H1 H2 : Hp} (x : PotStp a l H H1) (y : PotStp a l H1 H2) : PotStp a l H H2 := ⟨fun b h1 h2 => (y.oth b h1 h2).trans (x.oth b h1 h2)⟩
theorem PotStp.upA {a l : Addr} {H : Hp} (o : HO) : PotStp a l H (upd H a o) := ⟨fun b h1 _ => upd_ne h1⟩
theorem PotStp.upL {a l : Addr} {H : Hp} (o : HO) : PotStp a l H (upd H l o) := ⟨fun b _ h2 => upd_ne h2⟩
abbrev lenR (K : PySem.W.Frag) : List V → Hp → VK → Prop := fun xs H Q => ∃ x n, xs = [x] ∧ LenV K x H n ∧ Q (.int n) H
def drawF : List PyData → (R → Prop) → Prop := fun ds Q => ∃ m : Int, ds = [.int m] ∧ 0 < m ∧ m < 1073741824 ∧ ∀ k, 0 ≤ k → k < m → Q (.o (.int k))
theorem mtr_popAt {X : Cx} : MtR X "list.pop" rPopAt := fun pins s σ H x xs v us Q I rx rv h => mt_popAt pins s σ H x xs v us Q I rx rv h
theorem cutV_map (ns : List Int) (lo hi : Option Int) : cutV (ns.map V.int) lo hi = (cutL ns lo hi).map V.int := by
 unfold cutV cutL
 rw [List.length_map, List.map_take, List.map_drop]
def abc : List Nat := (List.range 26).map (· + 97)
def isLow (c : Nat) : Prop := 97 ≤ c ∧ c < 123
theorem unsg : ∀ {zs : List Str}, (∀ z ∈ zs, ∃ c, z = sg c ∧ isLow c) → ∃ w : List Nat, zs = w.map sg ∧ ∀ c ∈ w, isLow c
 | [], _ => ⟨[], rfl, by simp⟩
 | z :: zs, h => by
   obtain ⟨c, rfl, hc⟩ := h z List.mem_cons_self
   obtain ⟨w, rfl, hw⟩ := unsg (zs := zs) fun y hy => h y (List.mem_cons_of_mem _ hy)
   exact ⟨c :: w, rfl, fun d hd => by rcases List.mem_cons.mp hd with e | e; (rw [e]; exact hc); exact hw d e⟩
theorem erase_map {α β : Type} (f : α → β) : ∀ (l : List α) (i : Nat), (l.map f).eraseIdx i = (l.eraseIdx i).map f
 | [], _ => rfl
 | _ :: _, 0 => rfl
 | a :: l, i + 1 => by rw [List.map_cons, List.eraseIdx_cons_succ, List.eraseIdx_cons_succ, List.map_cons, erase_map f l i]
theorem eraseIdx_mem {α : Type} {l : List α} {i : Nat} {x : α} (h : x ∈ l.eraseIdx i) : x ∈ l := List.mem_of_mem_eraseIdx h
theorem perm_pick {α : Type} : ∀ {l : List α} {i : Nat} (h : i < l.length), ([l[i]] ++ l.eraseIdx i).Perm l
 | a :: l, 0, _ => .refl _
 | a :: l, i + 1, h => by
   have h' : i < l.length := by simpa using h
   have ih := perm_pick (l := l) (i := i) h'
   show (l[i] :: a :: l.eraseIdx i).Perm (a :: l)
   exact (List.Perm.swap a l[i] _).trans (List.Perm.cons a ih)
theorem sg_inj {a b : Nat} (h : sg a = sg b) : a = b := by
 have := congrArg (fun x : Str => x.cps.toList) h
 simpa [sg] using this
theorem risingS_inc : ∀ {w : List Nat} {x : Nat}, risingS (sg x) (w.map sg) = true → (∀ c ∈ w, x ≤ c) ∧ w.Pairwise (· ≤ ·)
 | [], _, _ => ⟨fun _ h => (nomatch h), .nil⟩
 | y :: r, x, h => by
   have h : (!(decide (y < x) || (y == x && false)) && risingS (sg y) (r.map sg)) = true := h
   rw [Bool.and_false, Bool.or_false, Bool.and_eq_true, Bool.not_eq_true', decide_eq_false_iff_not] at h
   obtain ⟨h1, h2⟩ := risingS_inc (w := r) (x := y) h.2
   refine ⟨fun c hc => ?_, .cons h1 h2⟩
   rcases List.mem_cons.mp hc with rfl | hc
   · omega
   · have := h1 c hc
     omega
theorem sorted_inc : ∀ {w : List Nat}, sortedS (w.map sg) = true → w.Nodup → w.Pairwise (· < ·)
 | [], _, _ => .nil
 | x :: r, h, hn => by
   obtain ⟨h1, h2⟩ := risingS_inc (w := r) (x := x) h
   obtain ⟨n1, n2⟩ := List.nodup_cons.mp hn
   refine .cons (fun c hc => Nat.lt_of_le_of_ne (h1 c hc) fun e => n1 (e ▸ hc)) ?_
   exact (List.Pairwise.and h2 n2).imp fun ⟨a, b⟩ => Nat.lt_of_le_of_ne a b
end L3
namespace L3
open PySem PySem.Spec
open PyProof.Rows hiding St
open L2
theorem eqF_int {neg : Bool} {i j : Int} : eqF neg (.int i) (.int j) = some (.o (.bool (if neg then !decide (i = j) else decide (i = j)))) := by
 unfold eqF
 have e : (okD (PyData.int i) && (PyData.int j).canLay0) = true := by simp [okD, PyData.canLay0, PyData.depth]
 rw [if_pos e]
 rfl
theorem compGo_map {h : Nat} {g : DG} {ft : DT} {fe : DE} {ρ : DSt} {Q : List PyData → Prop} {ds : List PyData} {e : PyData → PyData} (step : ∀ d ∈ ds, ∀ P : R → Prop, (∀ r, r.d = e d → P r) → g d (List.replicate h none ++ ρ) fun ρ2 => ft ρ2 fun b => b = true ∧ fe ρ2 P) :
   ∀ acc, acc.length + ds.length ≤ sizeLine → Q (acc ++ ds.map e) → (∀ d, ∀ (P P' : DSt → Prop) ρ, (∀ ρ, P ρ → P' ρ) → g d ρ P → g d ρ P') → (∀ ρ (P P' : Bool → Prop), (∀ b, P b → P' b) → ft ρ P → ft ρ P') → compGo h g ft fe ρ Q ds acc := by
 induction ds with
 | nil =>
   intro acc _ q _ _
   show Q acc
   simpa using q
 | cons d ds ih =>
   intro acc hz q mg mt
   have h1 := step d List.mem_cons_self
   refine mg d _ _ _ (fun ρ2 z => mt ρ2 _ _ (fun b y => ?_) z) (h1 (fun r => acc.length < sizeLine ∧ compGo h g ft fe ρ Q ds (acc ++ [r.d])) fun r hr => ?_)
   · rw [y.1]
     exact y.2
   · rw [List.length_cons] at hz
     refine ⟨by omega, ?_⟩
     rw [hr]
     exact ih (fun d' hd => step d' (List.mem_cons_of_mem _ hd)) (acc ++ [e d]) (by rw [List.length_append]; simp; omega) (by simpa using q) mg mt
theorem comp_plain {i : Nat} {fe : DE} {ρ : DSt} {Q : List PyData → Prop} {ds : List PyData} {e : PyData → PyData} {h : Nat} (step : ∀ d ∈ ds, ∀ P : R → Prop, (∀ r, r.d = e d → P r) → fe ((List.replicate h none ++ ρ).set i (some (.im d))) P) (hz : ds.length ≤ sizeLine) (q : Q (ds.map e)) :
   compGo h (gN i) yesD fe ρ Q ds [] :=
 compGo_map (fun d hd P hP => ⟨rfl, step d hd P hP⟩) [] (by simpa using hz) (by simpa using q) (fun _ _ _ _ k z => k _ z) (fun _ _ _ k z => k _ z)
theorem comp_of {α : Type} {enc : α → PyData} {i : Nat} {fe : DE} {ρ : DSt} {Q : List PyData → Prop} {as : List α} {e : α → PyData} {h : Nat} (step : ∀ a ∈ as, ∀ P : R → Prop, (∀ r, r.d = e a → P r) → fe ((List.replicate h none ++ ρ).set i (some (.im (enc a)))) P) (hz : as.length ≤ sizeLine) (q : Q (as.map e)) :
   compGo h (gN i) yesD fe ρ Q (as.map enc) [] := by
 have key : ∀ (as : List α) (acc : List PyData), (∀ a ∈ as, ∀ P : R → Prop, (∀ r, r.d = e a → P r) → fe ((List.replicate h none ++ ρ).set i (some (.im (enc a)))) P) → acc.length + as.length ≤ sizeLine → Q (acc ++ as.map e) → compGo h (gN i) yesD fe ρ Q (as.map enc) acc := by
   intro as
   induction as with
   | nil => intro acc _ _ q; show Q acc; simpa using q
   | cons a as ih =>
     intro acc st hz q
     rw [List.length_cons] at hz
     refine st a List.mem_cons_self _ fun r hr => ?_
     refine ⟨by omega, ?_⟩
     rw [hr]
     exact ih (acc ++ [e a]) (fun a' ha => st a' (List.mem_cons_of_mem _ ha)) (by rw [List.length_append]; simp; omega) (by simpa using q)
 exact key as [] step (by simpa using hz) (by simpa using q)
theorem forGo_rev {g : DG} {gb : DS} {Dd : DEnds} {ds : List PyData} {ρ : DSt} (J : Nat → DSt → Prop) (h0 : J 0 ρ) (fin : ∀ ρ, J ds.length ρ → Dd.nx ρ)
   (step : ∀ (j : Nat) d ρ (N : DSt → Prop), ds[j]? = some d → (∀ ρ', J (j + 1) ρ' → N ρ') → J j ρ → flat d = true ∧ g d ρ fun ρ2 => gb { Dd with nx := N, ct := N, bk := Dd.nx } ρ2) : forGo g gb Dd ds ρ := by
 have key : ∀ (k j : Nat), j + k = ds.length → ∀ ρ, J j ρ → forGo g gb Dd (ds.drop j) ρ := by
   intro k
   induction k with
   | zero =>
     intro j hj ρ h
     rw [List.drop_eq_nil_of_le (by omega)]
     have e : j = ds.length := by omega
     rw [e] at h
     exact fin ρ h
   | succ k ih =>
     intro j hj ρ h
     have hlt : j < ds.length := by omega
     rw [List.drop_eq_getElem_cons hlt]
     exact step j ds[j] ρ _ (List.getElem?_eq_getElem hlt) (fun ρ' h' => ih (j + 1) (by omega) ρ' h') h
 have := key ds.length 0 (by omega) ρ h0
 simpa using this
theorem numsD_len (lo : Int) (n : Nat) : (numsD lo n).length = n := by simp [numsD]
theorem flats_map {α : Type} {f : α → PyData} (h : ∀ a, flat (f a) = true) : ∀ l : List α, flats (l.map f) = true
 | [] => rfl
 | a :: l => by rw [List.map_cons, flats, h a, flats_map h l]; rfl
end L3
namespace L3
open PySem PySem.Spec
open PyProof.Rows hiding St
open L2
theorem tx_len (w : List Nat) : (tx w).length = w.length := by simp [tx, Str.length]
theorem add_tx {v w : List Nat} (h : v.length + w.length ≤ 16777216) : addF (.str (tx v)) (.str (tx w)) = some (.o (.str (tx (v ++ w)))) := by
 unfold addF
 dsimp only
 rw [tx_len, tx_len, if_pos (by rw [sizeLine_eq]; exact h)]
 have e : tx v ++ tx w = tx (v ++ w) := by
   show Str.mk _ = Str.mk _
   simp [tx]
 rw [e]
theorem sIx_nat (n d m : Nat) : HT.sIx n d (some (m : Int)) = min m n := by
 have := sIx_clip n d (m : Int)
 rw [if_neg (by omega)] at this
 omega
theorem sIx_none (n d : Nat) : HT.sIx n d none = d := rfl
theorem cut_to {α : Type} (xs : List α) (m : Nat) : cutL xs none (some (m : Int)) = xs.take m := by
 unfold cutL
 rw [sIx_nat, sIx_none, List.drop_zero, Nat.sub_zero, List.take_eq_take_min, Nat.min_assoc, Nat.min_self, ← List.take_eq_take_min]
theorem cutL_map {α β : Type} (f : α → β) (xs : List α) (lo hi : Option Int) : cutL (xs.map f) lo hi = (cutL xs lo hi).map f := by
 unfold cutL
 rw [List.length_map, List.map_take, List.map_drop]
def spLaw (K : PySem.W.Frag) : Sp := fun vs H Q _ => ∃ (a : Addr) (ns : List Int), vs = [.ref a] ∧ SqL K H a (ns.map V.int) ∧ ns.length ≤ 63 ∧ ∀ H', Q (.bl true) H'
end L3
namespace L3
open PySem PySem.Spec
open PyProof.Rows hiding St
open L2
theorem noFill_tuple_mul : fillsNumberSlot (.type "tuple") "mul" = pure false :=
 PySem.fillsNumberSlot_seq (id := "tuple.__mul__") (r := some (.builtin "tuple.__rmul__")) F.slot_tuple_mul.lookup (by decide +kernel) F.slot_tuple_rmul.lookup (by decide +kernel)
theorem repeat_tuple : seqRepeat? (.type "tuple") = pure (some (.builtin "tuple.__mul__")) := by
 unfold seqRepeat?
 rw [PySem.seqSlot_of (T := "tuple") (name := "__mul__") (id := "tuple.__mul__") F.slot_tuple_mul.lookup (by decide +kernel), PySem.seqSlot_of (T := "tuple") (name := "__rmul__") (id := "tuple.__rmul__") F.slot_tuple_rmul.lookup (by decide +kernel)]
 rfl
theorem int_rmul_tuple (a : Int) (t : Tok) (l : Addr) (items : Array Value) (n : Nat) (dd : Option Addr) (sl : Array (Option Value)) :
   Meets (Builtin.«int.__rmul__» ⟨[.int a t, .ref l], []⟩) (fun _ R s => s.heap.get? l = some { cls := .type "tuple", dict := dd, data := .seq items n, slots := sl } ∧ R (.ok (.ret Value.notImplemented)) s) :=
 .of_wp fun prog w A R s h => by obtain ⟨hp, g, d, tk, os⟩ := s; obtain ⟨hl, h⟩ := h; wp_walk; exact ⟨_, rfl, h⟩
theorem tuple_mul_same (l : Addr) (items : Array Value) (n : Nat) (dd : Option Addr) (sl : Array (Option Value)) (x : Int) (u : Tok) (hr : (decide (x < -2 ^ 63) || decide (x ≥ 2 ^ 63)) = false) (h1 : (items.isEmpty || x == 1) = true) :
   Meets (Builtin.«tuple.__mul__» ⟨[.ref l, .int x u], []⟩) (fun _ R s => s.heap.get? l = some { cls := .type "tuple", dict := dd, data := .seq items n, slots := sl } ∧ R (.ok (.ret (.ref l))) s) :=
 .of_wp fun prog w A R s h => by obtain ⟨hp, g, d, tk, os⟩ := s; obtain ⟨hl, h⟩ := h; wp_walk; refine wpAny_ite_false (decide_eq_false (by rw [hr]; exact Bool.false_ne_true)) ?_; wp_walk; exact ⟨_, rfl, h⟩
theorem tuple_mul_none (l : Addr) (items : Array Value) (n : Nat) (dd : Option Addr) (sl : Array (Option Value)) (x : Int) (u : Tok) (hr : (decide (x < -2 ^ 63) || decide (x ≥ 2 ^ 63)) = false) (h1 : ¬ (items.isEmpty || x == 1) = true) (h2 : (decide (x ≤ 0) || items.isEmpty) = true) :
   Meets (Builtin.«tuple.__mul__» ⟨[.ref l, .int x u], []⟩) (fun _ R s => s.heap.get? l = some { cls := .type "tuple", dict := dd, data := .seq items n, slots := sl } ∧ R (.ok (.ret (.ref s.heap.objs.size))) { s with heap := s.heap.push { cls := Value.type "tuple", data := Data.seq #[] }, toks := s.toks }) :=
 .of_wp fun prog w A R s h => by obtain ⟨hp, g, d, tk, os⟩ := s; obtain ⟨hl, h⟩ := h; wp_walk; refine wpAny_ite_false (decide_eq_false (by rw [hr]; exact Bool.false_ne_true)) ?_; wp_walk; exact ⟨_, rfl, h⟩
theorem tuple_mul_more (l : Addr) (items : Array Value) (n : Nat) (dd : Option Addr) (sl : Array (Option Value)) (x : Int) (u : Tok) (hr : (decide (x < -2 ^ 63) || decide (x ≥ 2 ^ 63)) = false) (h1 : ¬ (items.isEmpty || x == 1) = true) (h2 : ¬ (decide (x ≤ 0) || items.isEmpty) = true) (h3 : ¬ (items.size : Int) * x > (2 ^ 63 - 1) / 8) (h4 : ¬ Builtin.Tuple.tupleTooMany ((items.size : Int) * x) = true) (h5 : (List.foldl (fun x1 x2 => x1 ++ x2) #[] (List.replicate x.toNat items)).size ≤ sizeLine) :
   Meets (Builtin.«tuple.__mul__» ⟨[.ref l, .int x u], []⟩) (fun _ R s => s.heap.get? l = some { cls := .type "tuple", dict := dd, data := .seq items n, slots := sl } ∧ R (.ok (.ret (.ref s.heap.objs.size))) { s with heap := s.heap.push { cls := Value.type "tuple", data := Data.seq (List.foldl (fun x1 x2 => x1 ++ x2) #[] (List.replicate x.toNat items)) }, toks := s.toks }) :=
 .of_wp fun prog w A R s h => by obtain ⟨hp, g, d, tk, os⟩ := s; obtain ⟨hl, h⟩ := h; wp_walk; refine wpAny_ite_false (decide_eq_false (by rw [hr]; exact Bool.false_ne_true)) ?_; wp_walk; refine wpAny_ite_false (decide_eq_false h3) ?_; wp_walk; exact ⟨_, rfl, h⟩
section
variable {X : Cx}
def rRepT (K : PySem.W.Frag) : R2 := fun x y H Q => ∃ a k xs, x = .ref a ∧ y = .int k ∧ SqT K H a xs ∧ -(2 ^ 63) ≤ k ∧ k < 2 ^ 63 ∧ xs.length * k.toNat ≤ sizeLine ∧
 ((xs = [] ∨ k = 1) → Q (.ref a) H) ∧ (¬ (xs = [] ∨ k = 1) → ∀ p, H p = none → Q (.ref p) (upd H p (.tup (List.replicate k.toNat xs).flatten)))
theorem op_repT : OpR X (binaryOp .Mult) (rRepT X.K) := by
 intro pins s σ H x y v u Q I rx ry h
 obtain ⟨a, k, xs, rfl, rfl, hS, h1, h2, hz, q1, q2⟩ := h
 cases rx
 obtain ⟨t, rfl⟩ := ry
 obtain ⟨its, r1, p1, _⟩ := I.tuple hS
 obtain ⟨⟨cls, dd, data, sl⟩, ho, hc, n, hd⟩ := id p1
 simp only at hc hd
 subst hc hd
 have hlen := r1.length
 have hr : (decide (k < -2 ^ 63) || decide (k ≥ 2 ^ 63)) = false := by
   rw [decide_eq_false (by omega), decide_eq_false (by omega)]; rfl
 have nil : its.toArray.isEmpty = true ↔ xs = [] := by
   rw [← r1.nil_iff]
   simp
 have go : ∀ {R : Value → Shared → Prop}, wpAny (model X.prog X.w) X.A (call (.builtin "tuple.__mul__") [.ref a, .int k t]) R X.xe s → wpAny (model X.prog X.w) X.A (binaryOp .Mult (.ref a) (.int k t)) R X.xe s := fun {R} hh =>
   wpAny_binaryOp_repeat_ref (T := "tuple") (U := "int") (by decide) ⟨_, ho, rfl⟩ (fun s' => typeIs_int s' k t) noFill_tuple_mul F.fills_int_mul F.slot_int_rmul repeat_tuple F.slot_int_index.lookup
     (call_meets F.slot_int_rmul (typeIs_int s k t) F.entry_int_rmul (F.args_int_rmul_2 _ _) (int_rmul_tuple k t a its.toArray n dd sl) ⟨ho, rfl, ⟨_, ho, rfl⟩, hh⟩)
 by_cases hc : xs = [] ∨ k = 1
 · refine go (call_meets F.slot_tuple_mul ⟨_, ho, rfl⟩ F.entry_tuple_mul (F.args_tuple_mul_2 _ _) (tuple_mul_same a its.toArray n dd sl k t hr ?_) ⟨ho, ⟨.ref a, H, I, rfl, q1 hc⟩⟩)
   rcases hc with e | e
   · rw [nil.mpr e]; rfl
   · rw [e]; simp
 · have hx : xs ≠ [] := fun e => hc (.inl e)
   have hk : k ≠ 1 := fun e => hc (.inr e)
   have hne : its.toArray.isEmpty = false := by
     cases e : its.toArray.isEmpty with
     | false => rfl
     | true => exact absurd (nil.mp e) hx
   have hb : ¬ (its.toArray.isEmpty || k == 1) = true := by rw [hne]; simp [hk]
   by_cases h0 : k ≤ 0
   · refine go (call_meets F.slot_tuple_mul ⟨_, ho, rfl⟩ F.entry_tuple_mul (F.args_tuple_mul_2 _ _) (tuple_mul_none a its.toArray n dd sl k t hr hb (by rw [decide_eq_true h0]; rfl)) ⟨ho, ?_⟩)
     have e0 : k.toNat = 0 := by omega
     have q := q2 hc s.heap.objs.size (I.hok.fresh (Nat.le_refl _))
     rw [e0] at q
     exact ⟨.ref s.heap.objs.size, _, I.laid (t' := s.toks) (o := .tup []) (fun b ob q => Heap.get?_push_of_some _ q) (Nat.le_refl _) ⟨Nat.zero_le _, _, .nil, IsTup.new _ _⟩, rfl, q⟩
   · have hsz : (its.toArray.size : Int) * k = ((xs.length * k.toNat : Nat) : Int) := by
       rw [List.size_toArray, ← hlen]
       rw [Int.natCast_mul]
       congr 1
       omega
     have hnew : List.foldl (fun x1 x2 => x1 ++ x2) #[] (List.replicate k.toNat its.toArray) = (List.replicate k.toNat its).flatten.toArray := by
       have := foldl_rep its k.toNat []
       rw [List.nil_append] at this
       exact this
     have sz := sizeLine_eq
     refine go (call_meets F.slot_tuple_mul ⟨_, ho, rfl⟩ F.entry_tuple_mul (F.args_tuple_mul_2 _ _) (tuple_mul_more a its.toArray n dd sl k t hr hb (by rw [hne, decide_eq_false h0]; exact Bool.false_ne_true) (by rw [hsz]; omega) (by rw [hsz]; unfold Builtin.Tuple.tupleTooMany; rw [decide_eq_false (by omega)]; exact Bool.false_ne_true) (by rw [hnew, List.size_toArray, len_rep, ← hlen, Nat.mul_comm]; exact hz)) ⟨ho, ?_⟩)
     rw [hnew]
     exact ⟨.ref s.heap.objs.size, _, I.laid (t' := s.toks) (o := .tup (List.replicate k.toNat xs).flatten) (fun b ob q => Heap.get?_push_of_some _ q) (Nat.le_refl _) ⟨by rw [len_rep, Nat.mul_comm]; exact hz, _, r1.rep k.toNat, IsTup.new _ _⟩, rfl, q2 hc _ (I.hok.fresh (Nat.le_refl _))⟩
def rRepS : R2 := fun x y H Q => ∃ i k, x = .str i ∧ y = .int k ∧ -(2 ^ 63) ≤ k ∧ k < 2 ^ 63 ∧ i.length * k.toNat ≤ sizeLine ∧ Q (.str (tx (List.replicate k.toNat i.cps.toList).flatten)) H
theorem foldl_repN (w : List Nat) : ∀ (k : Nat) (acc : List Nat), List.foldl (fun x1 x2 => x1 ++ x2) acc.toArray (List.replicate k w.toArray) = (acc ++ (List.replicate k w).flatten).toArray
 | 0, acc => by simp
 | k + 1, acc => by
   rw [List.replicate_succ, List.foldl_cons, List.append_toArray, foldl_repN w k (acc ++ w), List.replicate_succ, List.flatten_cons, List.append_assoc]
theorem op_repS : OpR X (binaryOp .Mult) rRepS := by
 intro pins s σ H x y v u Q I rx ry h
 obtain ⟨i, k, rfl, rfl, h1, h2, hz, q⟩ := h
 obtain ⟨t, rfl⟩ := rx
 obtain ⟨t2, rfl⟩ := ry
 have sz := sizeLine_eq
 have hr : (decide (k < -(2 ^ 63 : Int)) || decide (k ≥ 2 ^ 63)) = false := by
   rw [decide_eq_false (by omega), decide_eq_false (by omega)]; rfl
 have hlen : i.length = i.cps.toList.length := by simp [Str.length]
 have hnew : (⟨(List.replicate k.toNat i.cps).foldl (· ++ ·) #[]⟩ : Str) = tx (List.replicate k.toNat i.cps.toList).flatten := by
   have := foldl_repN i.cps.toList k.toNat []
   rw [List.nil_append] at this
   show Str.mk _ = Str.mk _
   rw [← this]
 refine PySem.P.mul_str hr (fun n1 nn => ?_) (fun n1 nn => ?_) ?_
 · have hk : 0 < k.toNat := by omega
   have h3 : i.length ≤ sizeLine := Nat.le_trans (Nat.le_mul_of_pos_right _ hk) hz
   intro hh
   have h4 : (i.length : Int) * k ≤ 16777216 := by
     have : ((i.length * k.toNat : Nat) : Int) ≤ 16777216 := by omega
     rwa [Int.natCast_mul, show ((k.toNat : Nat) : Int) = k by omega] at this
   have h5 := Int.lt_of_lt_of_le (Int.lt_mul_of_ediv_lt (by omega : (0 : Int) < k) hh) h4
   omega
 · unfold Builtin.Str.tooLong
   exact decide_eq_false (by omega)
 · by_cases c1 : k < 1
   · rw [if_pos c1]
     have e0 : k.toNat = 0 := by omega
     rw [e0] at q
     exact ⟨by decide, .str _, H, I.tok _, ⟨_, rfl⟩, q⟩
   · rw [if_neg c1]
     by_cases c2 : (k == 1 || i.length == 0) = true
     · rw [if_pos c2]
       have e1 : tx (List.replicate k.toNat i.cps.toList).flatten = i := by
         rcases (Bool.or_eq_true _ _).mp c2 with e | e
         · have : k = 1 := by simpa using e
           subst this
           show tx ([i.cps.toList] : List (List Nat)).flatten = i
           simp [tx]
         · have e : i.length = 0 := by simpa using e
           have e2 : i.cps.toList = [] := List.eq_nil_of_length_eq_zero (by omega)
           rw [e2]
           have : (List.replicate k.toNat ([] : List Nat)).flatten = [] := by simp
           rw [this]
           have e3 : i.cps = #[] := Array.toList_inj.mp e2
           cases i
           simp_all [tx]
       rw [e1] at q
       exact ⟨.str i, H, I, ⟨_, rfl⟩, q⟩
     · rw [if_neg c2]
       refine ⟨?_, .str _, H, I.tok _, ⟨_, rfl⟩, ?_⟩
       · show Str.length _ ≤ sizeLine
         rw [hnew, tx_len, len_rep, Nat.mul_comm, ← hlen]
         exact hz
       · show Q (.str _) H
         rw [hnew]
         exact q
end
def rMulU (K : PySem.W.Frag) : R2 := fun x y H Q => rI CMul (fun i j => .int (i * j)) x y H Q ∨ rRepS x y H Q ∨ rRep x y H Q ∨ rRepT K x y H Q
theorem op_mulU {X : Cx} : OpR X (binaryOp .Mult) (rMulU X.K) := op_mul.or (op_repS.or (op_rep.or op_repT))
def mulD : PyData → PyData → (R → Prop) → Prop := fun d e Q => ∃ k : Int, e = .int k ∧ -(2 ^ 63) ≤ k ∧ k < 2 ^ 63 ∧ match d with
 | .int i => CMul i k ∧ Q (.o (.int (i * k)))
 | .str x => x.length * k.toNat ≤ sizeLine ∧ Q (.o (.str (tx (List.replicate k.toNat x.cps.toList).flatten)))
 | .list ds => ds.length * k.toNat ≤ sizeLine ∧ Q (.n (List.replicate k.toNat ds).flatten)
 | .tuple ds => ds.length * k.toNat ≤ sizeLine ∧ Q (.o (.tuple (List.replicate k.toNat ds).flatten))
 | _ => False
section
variable {K : PySem.W.Frag} {O : Ob} {F : Addr → Prop} {H : Hp}
theorem isAll_rep {xs : List V} {ds : List PyData} (h : IsAll K F H xs ds) : ∀ k : Nat, IsAll K F H (List.replicate k xs).flatten (List.replicate k ds).flatten
 | 0 => .nil
 | k + 1 => by
   rw [List.replicate_succ, List.replicate_succ, List.flatten_cons, List.flatten_cons]
   exact h.append (isAll_rep h k)
theorem opd_mulU : OpD K O (rMulU K) mulD := fun H x y d e Q Qd ok p ix iy ⟨k, he, h1, h2, q⟩ kk => by
 subst he
 cases iy
 cases ix with
 | int i => exact .inl ⟨_, _, rfl, rfl, q.1, kk _ H (.o _) (.refl _ _) (Is.int _) q.2⟩
 | str x => exact .inr (.inl ⟨_, _, rfl, rfl, h1, h2, q.1, kk _ H (.o _) (.refl _ _) (Is.str _) q.2⟩)
 | list f1 h3 s1 =>
   refine .inr (.inr (.inl ⟨_, _, _, rfl, rfl, h3, h1, h2, by rw [s1.length]; exact q.1, fun p' hp => ?_⟩))
   obtain ⟨a1, a2⟩ := out_list ok hp (isAll_rep s1 k.toNat)
   exact kk _ _ _ a1 a2 q.2
 | tuple h3 s1 =>
   refine .inr (.inr (.inr ⟨_, _, _, rfl, rfl, h3, h1, h2, by rw [s1.length]; exact q.1, fun hc => ?_, fun hc p' hp => ?_⟩))
   · rcases hc with e | e
     · subst e
       cases s1
       have e2 : (List.replicate k.toNat ([] : List PyData)).flatten = [] := by simp
       have q2 := q.2
       rw [e2] at q2
       exact kk _ H (.o _) (.refl _ _) (Is.tuple h3 .nil) q2
     · subst e
       have q2 := q.2
       have e2 : ∀ ds : List PyData, (List.replicate (1 : Int).toNat ds).flatten = ds := fun ds => by simp
       rw [e2] at q2
       exact kk _ H (.o _) (.refl _ _) (Is.tuple h3 s1) q2
   · obtain ⟨a1, a2⟩ := out_tup ok hp (isAll_rep s1 k.toNat)
     exact kk _ _ _ a1 a2 q.2
 | _ => exact q.elim
end
theorem e_mulU {ι κ : Type} {P : Program} {w : World} {K : PySem.W.Frag} {mg : Str → Option Value} {base : Heap} {k : Nat} {X : ι → Cx} {O : κ → Ob} {a b : Expr} {fa fb : DE} {pos : Pos} (C : Ctx3 P w K mg base k X) (ha : E3 K X O a fa) (hb : E3 K X O b fb) : E3 K X O (.BinOp a .Mult b pos) (opDE mulD fa fb) := e_op (fun i => by have h := op_mulU (X := X i); rw [C.hK] at h; exact h) (fun _ => opd_mulU) ha hb
theorem comp_ofG {α : Type} {enc : α → PyData} {g : DG} {fe : DE} {ρ : DSt} {Q : List PyData → Prop} {as : List α} {e : α → PyData} {h : Nat} (step : ∀ a ∈ as, ∀ P : R → Prop, (∀ r, r.d = e a → P r) → g (enc a) (List.replicate h none ++ ρ) fun ρ2 => if true = true then fe ρ2 P else False) (mg : ∀ d ρ (P P' : DSt → Prop), (∀ ρ, P ρ → P' ρ) → g d ρ P → g d ρ P') (hz : as.length ≤ sizeLine) (q : Q (as.map e)) :
   compGo h g yesD fe ρ Q (as.map enc) [] := by
 have key : ∀ (l : List α) (acc : List PyData), (∀ a ∈ l, a ∈ as) → acc.length + l.length ≤ sizeLine → Q (acc ++ l.map e) → compGo h g yesD fe ρ Q (l.map enc) acc := by
   intro l
   induction l with
   | nil => intro acc _ _ q; show Q acc; simpa using q
   | cons a l ih =>
     intro acc hs hz q
     rw [List.length_cons] at hz
     refine mg _ _ _ _ (fun ρ2 z => ?_) (step a (hs a List.mem_cons_self) (fun r => acc.length < sizeLine ∧ compGo h g yesD fe ρ Q (l.map enc) (acc ++ [r.d])) fun r hr => ⟨by omega, ?_⟩)
     · rw [if_pos rfl] at z
       exact iteT (B := compGo h g yesD fe ρ Q (l.map enc) acc) z
     · rw [hr]
       exact ih (acc ++ [e a]) (fun x hx => hs x (List.mem_cons_of_mem _ hx)) (by rw [List.length_append]; simp; omega) (by simpa using q)
 exact key as [] (fun _ h => h) (by simpa using hz) (by simpa using q)
theorem gT_mono {is : List Nat} : ∀ d ρ (P P' : DSt → Prop), (∀ ρ, P ρ → P' ρ) → gT is d ρ P → gT is d ρ P' := by
 have key : ∀ (is : List Nat) (ds : List PyData) ρ (P P' : DSt → Prop), (∀ ρ, P ρ → P' ρ) → gTD is ds ρ P → gTD is ds ρ P' := by
   intro is
   induction is with
   | nil => intro ds ρ P P' h z; cases ds with
     | nil => exact h _ z
     | cons _ _ => exact z.elim
   | cons i is ih => intro ds ρ P P' h z; cases ds with
     | nil => exact z.elim
     | cons d ds => exact ih ds _ P P' h z
 exact fun d ρ P P' h ⟨ds, e, z⟩ => ⟨ds, e, key _ _ _ _ _ h z⟩
theorem join_foldT : ∀ (l : List (List Nat)) (acc : Array Nat), (l.map tx).foldl (fun acc p => acc ++ (Str.ofString "").cps ++ p.cps) acc = acc ++ l.flatten.toArray
 | [], acc => by simp
 | c :: r, acc => by
   rw [List.map_cons, List.foldl_cons, join_foldT r]
   have e : (Str.ofString "").cps = #[] := by decide +kernel
   rw [e]
   apply Array.toList_inj.mp
   simp [tx]
theorem join_tx (w : List (List Nat)) : Txt.join "" (w.map tx) = tx w.flatten := by
 cases w with
 | nil => decide +kernel
 | cons c r =>
   show Builtin.Str.glued (Str.ofString "") (tx c :: r.map tx) = tx (c :: r).flatten
   unfold Builtin.Str.glued
   show (⟨(r.map tx).foldl _ (tx c).cps⟩ : Str) = _
   rw [join_foldT]
   unfold tx
   congr 1
   apply Array.toList_inj.mp
   simp
theorem sum_tx (w : List (List Nat)) : ((w.map tx).map (·.length)).sum = w.flatten.length := by
 induction w with
 | nil => rfl
 | cons c r ih => rw [List.map_cons, List.map_cons, List.sum_cons, ih, tx_len, List.flatten_cons, List.length_append]
theorem join_yt (ws : List (List Nat)) (hl : ws.flatten.length ≤ 16777216) : ∃ ys : List Str, PyData.list (ws.map fun v => .str (tx v)) = .list (ys.map .str) ∧ (ys.map (·.length)).sum + ys.length * (Str.ofString "").length ≤ 16777216 ∧ Txt.join "" ys = tx ws.flatten := by
 refine ⟨ws.map tx, by rw [List.map_map]; rfl, ?_, join_tx ws⟩
 have e0 : (Str.ofString "").length = 0 := by decide +kernel
 rw [sum_tx, e0]
 omega
theorem repr_bool (b : Bool) : ∃ x, reprF [.bool b] = some (.o (.str x)) ∧ PyData.strOk x = true := by
 cases b <;> exact ⟨_, rfl, by decide +kernel⟩
end L3
namespace L3
open PySem PySem.Spec
open PyProof.Rows hiding St
open L2
def truB : PyData → Option Bool
 | .none => some false
 | .bool b => some b
 | .int i => some (i != 0)
 | .str x => if x.length ≤ sizeLine then some ((x.length : Int) != 0) else none
 | .list ds => some (!ds.isEmpty)
 | .tuple ds => some (!ds.isEmpty)
 | _ => none
def truD (f : DE) : DT := fun ρ Q => f ρ fun r => ∃ b, truB r.d = some b ∧ Q b
section
variable {K : PySem.W.Frag} {O : Ob}
theorem isAll_empty {F : Addr → Prop} {H : Hp} {xs : List V} {ds : List PyData} (h : IsAll K F H xs ds) : xs.isEmpty = ds.isEmpty := by
 cases h <;> rfl
theorem td_tru {t : TE} {f : DE} (h : ED K O t f) : TD K O (fun σ H Q => t σ H fun x H' => ∃ k, TruV K x H' k ∧ Q k H') (truD f) := fun σ H ρ Q Qd S hf k => by
 refine h σ H ρ _ _ S hf fun v H1 r s1 o1 ⟨b, e, q⟩ => ?_
 have iv := o1.is S.ok S.p
 refine ⟨b, ?_, k b H1 s1 q⟩
 generalize r.d = d at iv e
 cases iv with
 | none => cases e; rfl
 | bool b => cases e; rfl
 | int i => cases e; rfl
 | str x =>
   have e : (if x.length ≤ sizeLine then some ((x.length : Int) != 0) else none) = some b := e
   by_cases hl : x.length ≤ sizeLine
   · rw [if_pos hl] at e
     cases e
     exact ⟨hl, rfl⟩
   · rw [if_neg hl] at e
     cases e
 | list f1 h1 s1 => cases e; exact .inl ⟨_, .of h1, by rw [isAll_empty s1]⟩
 | tuple h1 s1 => cases e; exact .inr (.inl ⟨_, h1, by rw [isAll_empty s1]⟩)
theorem isAll_dropLast {F : Addr → Prop} {H : Hp} : ∀ {xs : List V} {ds : List PyData}, IsAll K F H xs ds → IsAll K F H xs.dropLast ds.dropLast
 | _, _, .nil => .nil
 | _, _, .cons h .nil => .nil
 | _, _, .cons h (.cons h2 h3) => .cons h (isAll_dropLast (.cons h2 h3))
end
section
variable {ι κ : Type} {P : Program} {w : World} {K : PySem.W.Frag} {mg : Str → Option Value} {base : Heap} {k : Nat} {X : ι → Cx} {O : κ → Ob} {a b : Expr} {fa : DE} {pos p : Pos} {ga : DA}
theorem t_tru (C : Ctx3 P w K mg base k X) (ha : E3 K X O a fa) (he : ∀ i whole, isTrue a (X i).env whole = (do let v ← whole; standAt a.pos; holding [v] (truthy v)) := by intro _ _; rfl) : T3 K X O a (truD fa) := let ⟨_, q, d⟩ := ha;
 ⟨_, fun i => by have h := pt_truth (X := X i) (q i) (he i); rw [C.hK] at h; exact h, fun j => td_tru (d j)⟩
theorem mtr_pop {X : Cx} : MtR X "list.pop" rPop := fun pins s σ H x xs v us Q I rx rv h => mt_pop pins s σ H x xs v us Q I rx rv h
end
section
variable {K : PySem.W.Frag} {O : Ob}
def extS (i : Nat) (f : DE) : DS := fun Dd ρ => ∃ ds, ρ[i]? = some (some (.own ds)) ∧ f ρ fun r => ∃ es, r.d = .list es ∧ flats es = true ∧ ds.length + es.length ≤ sizeLine ∧ Dd.nx (ρ.set i (some (.own (ds ++ es))))
theorem sd_extend {i : Nat} {t : TE} {f : DE} (h : ED K O t f) : SD K O (tDrop (tBM K "list" rExtend (tVar i) (tCons t tNil))) (extS i f) := fun H₀ A σ H ρ D Dd r q P => by
 obtain ⟨ds, e, q⟩ := q
 obtain ⟨v, hv, a, xs, rfl, ha, hl, hs⟩ := r.at_ i _ e
 refine ⟨_, hv, ?_⟩
 refine ⟨.inl ⟨rfl, xs, .of hl⟩, ?_⟩
 refine h σ H ρ _ _ r.seen q fun w H1 x s1 o1 ⟨es, ed, fl, hz, q1⟩ => ?_
 have r1 := r.stp s1
 obtain ⟨v1, hv1, a1, xs1, e1, ha1, hl1, hs1⟩ := r1.at_ i _ e
 rw [hv] at hv1
 cases hv1
 cases e1
 have iw := o1.is r.ok r.p
 rw [ed] at iw
 cases iw with
 | list f1 h1 s2 =>
   refine ⟨a, _, xs1, _, rfl, rfl, hl1, h1, by rw [hs1.length, s2.length]; exact hz, ?_⟩
   exact P.nx A σ _ _ (r1.change e hv ha (hs1.append (IsAll.flats (TupStay.refl H1) s2 fl))) ((Frm.stp s1).trans (.change ha)) q1
end
section
variable {ι κ : Type} {P : Program} {w : World} {K : PySem.W.Frag} {mg : Str → Option Value} {base : Heap} {k : Nat} {X : ι → Cx} {O : κ → Ob} {a b : Expr} {fa fb : DE} {pos p : Pos} {ga : DA}
theorem bt_max : bootBuiltins "max" = some (.builtin "max") := by decide +kernel
theorem mtr_extend {X : Cx} : MtR X "list.extend" rExtend := fun pins s σ H x xs v us Q I rx rv h => mt_extend pins s σ H x xs v us Q I rx rv h
theorem s_ext (n : Nat) {x : Str} {px apos cpos : Pos} (C : Ctx3 P w K mg base k X) (hb : E3 K X O b fb) (hN : ∀ i, (X i).N[n]? = some x := by intro i; rfl) (hv : ∀ i, Vis (X i).env.scope x := by intro i; first | exact Or.inl rfl | exact Or.inr (Or.inl rfl) | exact Or.inr (Or.inr rfl)) (hd : (x == ("__debug__" : Str)) = false := by decide) (hcd : (x == ("__classdict__" : Str)) = false := by decide)
   (hbase : ∀ i, attributeBase (.Name x px) "extend" (X i).env (eval (.Name x px) (X i).env) = eval (.Name x px) (X i).env := by intro i; rfl)
   (hfew : ∀ i, ((backTo cpos (starEach [b] (X i).env)).all (fun x => !x.1) && (backToKw cpos (keywordEach [] (X i).env)).all (fun x => x.1.isSome) && decide (([b] : List Expr).length + ([] : List Keyword).length + (if ([] : List Keyword).isEmpty then 0 else 1) < 30)) = true := by intro i; rfl)
   (hline : (apos.endLine == cpos.line) = true := by rfl) (hs : ∀ i, starEach [b] (X i).env = [(false, eval b (X i).env)] := by intro i; rfl) (hsw : ∀ i, swapsWith (.Call (.Attribute (.Name x px) "extend" apos) [b] [] cpos) none pos.line (X i).env = pure false := by intro i; rfl) :
   S3 K X O (.Expr (.Call (.Attribute (.Name x px) "extend" apos) [b] [] cpos) pos) (extS n fb) := let ⟨_, p2, d2⟩ := hb;
 ⟨tDrop (tBM K "list" rExtend (tVar n) (tCons _ tNil)), fun i => by
   have h := pe_bm (apos := apos) (cpos := cpos) PySem.F.plainAttrs_list PySem.F.slot_list_extend PySem.F.type_list_extend (mtr_extend (X := X i)) (pe_var (pos := px) (hN i) (hv i) hd hcd) (pa_cons (p2 i) pa_nil (hs i)) (hbase i) (hfew i) hline (hs i)
   rw [C.hK] at h
   exact ps_expr h (hsw i), fun j => sd_extend (d2 j)⟩
end
end L3
namespace L3
open PySem PySem.Spec
open PyProof.Rows hiding St
open L2
namespace RV
theorem nolen_rev : typeLookup (.type "list_reverseiterator") "__len__" = pure none := by rw [typeLookup_type, builtinLookup_eq_fast]; kernel_rfl
theorem hint_rev : typeLookup (.type "list_reverseiterator") "__length_hint__" = pure (some (.builtin "list_reverseiterator.__length_hint__")) := by rw [typeLookup_type, builtinLookup_eq_fast]; kernel_rfl
theorem sub_rev_self : isSubtype (.type "list_reverseiterator") (.type "list_reverseiterator") = pure true := by rw [isSubtype_type]; kernel_rfl
theorem split_hint : splitId "list_reverseiterator.__length_hint__" = some ("list_reverseiterator", "__length_hint__") := by decide +kernel
theorem hint_no {prog : Program} {w : World} {A : Around} {E : Value → Shared → Prop} {s : Shared} {it : Addr} {Q : Bool → Shared → Prop} (t : s.TypeIs (.ref it) "list_reverseiterator") (q : Q false s) : wpAny (model prog w) A (Builtin.List.listLengthHint (.ref it)) Q E s := by
 have sp := split_hint
 unfold Builtin.List.listLengthHint
 refine wpAny_bind (wpAny_specialOf t nolen_rev (wpAny_bind (wpAny_specialOf t hint_rev ?_)))
 revert sp
 generalize z : ("list_reverseiterator.__length_hint__" : String) = nm
 intro sp
 dsimp only
 rw [sp]
 subst z
 exact wpAny_bind (wpAny_isInstance (b := true) t sub_rev_self (wpAny_pure q))
theorem list_of_rev {prog : Program} {w : World} {A : Around} {E : Value → Shared → Prop} {s : Shared} {it l : Addr} {items : Array Value} {Q : Value → Shared → Prop} (hh : A.handled = none) (hr : s.heap.IsRevIter it l ((items.size : Int) - 1)) (hl : s.heap.IsList l items) (hne : l ≠ it) (hz : items.size ≤ sizeLine)
   (q : ∀ h' t' vs c, (∀ b o, b ≠ it → s.heap.get? b = some o → h'.get? b = some o) → h'.get? s.heap.objs.size = some { cls := .type "list", dict := none, data := .seq vs c, slots := #[] } → ItemsOf (fun i v => items[items.size - 1 - i]? = some v) vs items.size → Q (.ref s.heap.objs.size) { s with heap := h', toks := t' }) :
   wpAny (model prog w) A (call (.type "list") [.ref it]) Q E s := by
 have W := (Walks.listRev (prog := prog) (w := w) (A := A.in1.in1) hh it l hne items).toS
 have new : ∀ b o, s.heap.get? b = some o → b ≠ s.heap.objs.size := fun b o e z => by
   subst z
   rw [Heap.get?] at e
   simp at e
 refine callType_codes (Q₁ := fun v s1 => v = .ref s.heap.objs.size ∧ s1 = { s with heap := s.heap.push { cls := .type "list", data := .seq #[] } }) F.called_list (F.typeCall_list_1 _) F.entry_list_init (code_list_new _ ⟨rfl, rfl⟩) ?_
 rintro _ _ ⟨rfl, rfl⟩
 refine ⟨⟨_, Heap.get?_push_size _ rfl, rfl⟩, F.args_list_init_2 _ _, ?_⟩
 obtain ⟨o, ho, hc, hd⟩ := id hr
 have nI : s.heap.objs.size ≠ it := fun z => new it _ ho z.symm
 have same : Builtin.List.listSameRef (.ref s.heap.objs.size) (.ref it) = false := by simp [Builtin.List.listSameRef, nI]
 have t1 : Value.type "list_reverseiterator" ≠ Value.type "list" := by decide
 have eS : (s.heap.push { cls := .type "list", data := .seq #[] }).get? s.heap.objs.size = some { cls := .type "list", data := .seq #[] } := Heap.get?_push_size _ rfl
 have eI := Heap.get?_push_of_some { cls := .type "list", data := .seq (#[] : Array Value) } ho
 have a1 := nolen_rev
 have a2 := hint_rev
 have a3 := sub_rev_self
 obtain ⟨hp, g, dr, tk, os⟩ := s
 have eI2 : (((hp.push { cls := .type "list", data := .seq #[] }).update hp.objs.size (Obj.mapSeq fun _ => (#[] : Array Value))).get? it) = some o := by
   rw [Heap.get?_update_other _ _ nI]
   exact eI
 have eS2 := Heap.get?_update_self (Obj.mapSeq (fun _ => (#[] : Array Value))) eS rfl
 have hr2 : ((hp.push { cls := .type "list", data := .seq #[] }).update hp.objs.size (Obj.mapSeq fun _ => (#[] : Array Value))).IsRevIter it l ((items.size : Int) - 1) := ⟨o, eI2, hc, hd⟩
 have hT : Shared.TypeIs ⟨((hp.push { cls := .type "list", data := .seq #[] }).update hp.objs.size (Obj.mapSeq fun _ => (#[] : Array Value))), g, dr, tk, os⟩ (.ref it) "list_reverseiterator" := ⟨o, eI2, hc⟩
 unfold Builtin.«list.__init__»
 wp_walk using wpAny_pyIter_revIter hr2, wpAny_typeOf hT, hint_no hT
 have hl2 : ((hp.push { cls := .type "list", data := .seq #[] }).update hp.objs.size (Obj.mapSeq fun _ => (#[] : Array Value))).IsList l items := by
   obtain ⟨ol, h1, h2⟩ := hl
   refine ⟨ol, ?_, h2⟩
   rw [Heap.get?_update_other _ _ (fun z => new l _ h1 z.symm)]
   exact Heap.get?_push_of_some _ h1
 have hS : hp.objs.size ∉ [it, l] := fun z => by
   obtain ⟨ol, h1, _⟩ := hl
   rcases List.mem_cons.mp z with z | z
   · exact nI z
   · exact new l _ h1 (List.mem_singleton.mp z).symm
 refine ⟨plainId_quiet F.plain_extend_loop _, codeAny_extend_loopS W hz _ hS _ items.size 0 _ _ _ rfl (Nat.zero_le _) ⟨Nat.zero_le _, by simpa using hr2, hl2⟩ eS2 (ItemsOf.nil _) fun s' vs c m e is => ⟨rfl, ?_⟩⟩
 obtain ⟨hp', g', dr', tk', os'⟩ := s'
 obtain ⟨m1, m2, m3, m4, m5⟩ := m
 have m2 : g' = g := m2
 have m3 : dr' = dr := m3
 have m4 : os' = os := m4
 subst m2 m3 m4
 refine q hp' tk' vs c (fun b ob hb eb => m1 b ob (fun z => ?_) ?_) e is
 · rcases List.mem_cons.mp z with z | z
   · exact new b _ eb z
   · exact hb (List.mem_singleton.mp z)
 · show ((hp.push _).update _ _).get? b = _
   rw [Heap.get?_update_other _ _ (fun z => new b _ eb z.symm)]
   exact Heap.get?_push_of_some _ eb
theorem items_rev {its : List Value} {vs : Array Value} (h : ItemsOf (fun i v => its.toArray[its.toArray.size - 1 - i]? = some v) vs its.toArray.size) : vs = its.reverse.toArray := by
 obtain ⟨h1, h2⟩ := h
 apply Array.ext'
 apply List.ext_getElem?
 intro i
 by_cases hi : i < vs.size
 · have e : vs.toList[i]? = some vs[i] := by simp [hi]
   have e2 := h2 i vs[i] (by simp [hi])
   rw [e, ← e2]
   simp at h1 e2 ⊢
   rw [List.getElem?_reverse (by omega)]
 · rw [List.getElem?_eq_none (by simpa using hi)]
   symm
   apply List.getElem?_eq_none
   simp at h1 ⊢
   omega
end RV
def tLR (K : PySem.W.Frag) (te : TE) : TE := fun σ H Q => te σ H fun v H1 => ∃ a xs, v = .ref a ∧ SqL K H1 a xs ∧ ∀ p, H1 p = none → Q (.ref p) (upd H1 p (.lst xs.reverse))
theorem pe_listrev {X : Cx} {e : Expr} {te : TE} {p1 p2 p3 p4 : Pos} (calm : X.A.handled = none) (gl : Gl X "list") (ml : X.mg "list" = none) (gr : Gl X "reversed") (mr : X.mg "reversed" = none) (he : PE X e te)
   (s1 : starEach [.Call (.Name "reversed" p2) [e] [] p3] X.env = (false, eval (.Call (.Name "reversed" p2) [e] [] p3) X.env) :: starEach [] X.env := by rfl) (s2 : starEach [e] X.env = (false, eval e X.env) :: starEach [] X.env := by rfl) :
   PE X (.Call (.Name "list" p1) [.Call (.Name "reversed" p2) [e] [] p3] [] p4) (tLR X.K te) := by
 intro pins s σ H Q I h
 refine wpAny_Call_Name_kw (ld_blt I gl ml (u := .type "list") rfl ?_)
 refine PyProof.Rows.callWith_type1 ?_ s1
 rw [s1]
 show wpAny _ _ (spliced ((false, eval (.Call (.Name "reversed" p2) [e] [] p3) X.env) :: [])) _ _ s
 refine Calls.spliced_cons ?_
 refine wpAny_Call_Name_kw (ld_blt I gr mr (u := .type "reversed") rfl ?_)
 refine PyProof.Rows.callWith_type1 ?_ s2
 rw [s2]
 show wpAny _ _ (spliced ((false, eval e X.env) :: [])) _ _ s
 refine Calls.spliced_cons (thn (he pins s σ H _ I h) fun u s' ⟨y, H1, I1, r1, a, xs, ey, hq, q⟩ => ?_)
 subst ey
 cases r1
 refine Calls.spliced_nil ?_
 obtain ⟨its, rv, pl, hz⟩ := I1.list hq
 have hlen := rv.length
 have isl := pl.isList
 refine call_reversed_list isl ?_
 refine Calls.spliced_nil ?_
 have new : a ≠ s'.heap.objs.size := fun z => by
   obtain ⟨o, ho, _⟩ := isl
   exact Nat.lt_irrefl _ (z ▸ Heap.lt_size ho)
 have isl2 : (s'.heap.push (revObj a ((its.toArray.size : Int) - 1))).IsList a its.toArray := isl.push _
 refine RV.list_of_rev (s := { s' with heap := s'.heap.push (revObj a ((its.toArray.size : Int) - 1)) }) calm ⟨_, Heap.get?_push_size _ rfl, rfl, rfl⟩ isl2 new (by simp; omega) fun h' t' vs c kp e is => ?_
 have ez : (s'.heap.push (revObj a ((its.toArray.size : Int) - 1))).objs.size = s'.heap.objs.size + 1 := Heap.size_push ..
 have ev := RV.items_rev is
 subst ev
 have kp2 : ∀ b o, s'.heap.get? b = some o → h'.get? b = some o := fun b o eb => kp b o (fun z => Nat.lt_irrefl _ (z ▸ Heap.lt_size eb)) (Heap.get?_push_of_some _ eb)
 have fr : H1 (s'.heap.objs.size + 1) = none := I1.hok.fresh (Nat.le_succ _)
 dsimp only at e ⊢
 rw [ez] at e ⊢
 exact ⟨.ref (s'.heap.objs.size + 1), _, I1.laid (t' := t') kp2 (Nat.le_succ _) (show ObjOk X.prog X.w _ h' _ (.lst xs.reverse) from ⟨by rw [List.length_reverse]; exact hz, its.reverse, c, rv.reverse, e⟩), rfl, q _ fr⟩
end L3
namespace L3
open PySem PySem.Spec
open PyProof.Rows hiding St
open L2
abbrev kSeed : Key := .inr "seed"
abbrev kNum : Key := .inr "number"
abbrev kLeft : Key := .inr "left"
def dealKv (seed num : Int) (l : Addr) : List (Key × V) := [(kSeed, .int seed), (kNum, .int num), (kLeft, .ref l)]
def dealA (seed num : Int) (l : Addr) : HO := .dK (dealKv seed num l)
theorem val_seed (s n : Int) (l : Addr) : valV (dealKv s n l) kSeed = some (.int s) := by simp [valV, dealKv, List.find?_cons]
theorem val_num (s n : Int) (l : Addr) : valV (dealKv s n l) kNum = some (.int n) := by
 have h1 : ¬ (kSeed = kNum) := by decide +kernel
 simp [valV, dealKv, List.find?_cons, h1]
theorem val_left (s n : Int) (l : Addr) : valV (dealKv s n l) kLeft = some (.ref l) := by
 have h1 : ¬ (kSeed = kLeft) := by decide +kernel
 have h2 : ¬ (kNum = kLeft) := by decide +kernel
 simp [valV, dealKv, List.find?_cons, h1, h2]
theorem put_seed (s n s' : Int) (l : Addr) : putK (dealKv s n l) kSeed (.int s') = dealKv s' n l := by
 have h1 : ¬ (kNum = kSeed) := by decide +kernel
 have h2 : ¬ (kLeft = kSeed) := by decide +kernel
 simp [putK, dealKv, h1, h2]
theorem put_num (s n n' : Int) (l : Addr) : putK (dealKv s n l) kNum (.int n') = dealKv s n' l := by
 have h1 : ¬ (kSeed = kNum) := by decide +kernel
 have h2 : ¬ (kLeft = kNum) := by decide +kernel
 simp [putK, dealKv, h1, h2]
structure DealAt (H : Hp) (a l : Addr) (seed num : Int) (ns : List Int) : Prop where
 ne : a ≠ l
 ha : H a = some (dealA seed num l)
 hl : H l = some (.lst (ns.map V.int))
 s0 : 0 ≤ seed
 s1 : seed < 4294967296
 n0 : 0 ≤ num
 ns0 : ∀ n ∈ ns, 0 ≤ n
structure IsDeal (O : Ob) : Prop where
 ex : ∃ a l, O.v = .ref a ∧ O.M a ∧ O.M l ∧ (∀ H, O.P H → ∃ s n ns, DealAt H a l s n ns) ∧ ∀ H H' s n ns, O.P H → DealAt H' a l s n ns → (∀ b, O.M b → b ≠ a → b ≠ l → H' b = H b) → O.P H'
theorem IsDeal.plus {O : Ob} (h : IsDeal O) (D : Addr) (u : HO) (nm : ¬ O.M D) : IsDeal (O.plus D u) := by
 obtain ⟨a, l, hv, ma, ml, h1, h2⟩ := h.ex
 have da : D ≠ a := fun e => nm (e ▸ ma)
 have dl : D ≠ l := fun e => nm (e ▸ ml)
 refine ⟨a, l, hv, .inl ma, .inl ml, fun H p => h1 H p.1, fun H H' s n ns p q k => ⟨h2 H H' s n ns p.1 q fun b mb => k b (.inl mb), ?_⟩⟩
 rw [k D (.inr rfl) da dl]
 exact p.2
theorem upD {κ : Type} {O : κ → Ob} (h : ∀ j, IsDeal (O j)) : ∀ j, IsDeal (compO O j) := fun j => (h j.1.1).plus _ _ j.2
def dealOb (a l : Addr) : Ob := ⟨fun b => b = a ∨ b = l, fun H => ∃ s n ns, DealAt H a l s n ns, .ref a⟩
theorem dealOb_ok (a l : Addr) : (dealOb a l).Ok := by
 refine ⟨fun H H' e ⟨s, n, ns, p⟩ => ⟨s, n, ns, p.ne, (e a (.inl rfl)).trans p.ha, (e l (.inr rfl)).trans p.hl, p.s0, p.s1, p.n0, p.ns0⟩, fun H b o ⟨s, n, ns, p⟩ eb m => ?_, fun H b ⟨s, n, ns, p⟩ m => ?_⟩
 · rcases m with rfl | rfl
   · rw [p.ha] at eb; cases eb; exact ⟨fun _ z => (by cases z), fun _ _ z => (by cases z)⟩
   · rw [p.hl] at eb; cases eb; exact ⟨fun _ z => (by cases z), fun _ _ z => (by cases z)⟩
 · rcases m with rfl | rfl
   · exact ⟨_, p.ha⟩
   · exact ⟨_, p.hl⟩
theorem dealOb_is (a l : Addr) : IsDeal (dealOb a l) := ⟨a, l, rfl, .inl rfl, .inr rfl, fun _ p => p, fun _ _ s n ns _ q _ => ⟨s, n, ns, q⟩⟩
abbrev dAt (k : Str) : TE := tDGet (tVar 0) (tC (.str k))
def tDealW (K : PySem.W.Frag) : TS :=
 tWhile (tAnd (tTest (tOp rEq (dAt "number") (tC (.int 0)))) (tTest (tOp (rI0 fun i j => .bl (decide (j < i))) (tCB (lenR K) (tCons (dAt "left") tNil)) (tC (.int 0)))))
     (sDPut (tVar 0) (tC (.str "number")) (tBM0 K "list" rPop (dAt "left")))
theorem at_num {H : Hp} {a l : Addr} {s n : Int} {ns : List Int} {σ : St} {Q : VK} (p : DealAt H a l s n ns) (hσ : σ[0]? = some (some (.ref a))) (q : Q (.int n) H) : dAt "number" σ H Q :=
 ⟨_, hσ, a, _, rfl, .inl ⟨_, kNum, .inl p.ha, rfl, (val_num s n l).symm⟩, q⟩
theorem at_seed {H : Hp} {a l : Addr} {s n : Int} {ns : List Int} {σ : St} {Q : VK} (p : DealAt H a l s n ns) (hσ : σ[0]? = some (some (.ref a))) (q : Q (.int s) H) : dAt "seed" σ H Q :=
 ⟨_, hσ, a, _, rfl, .inl ⟨_, kSeed, .inl p.ha, rfl, (val_seed s n l).symm⟩, q⟩
theorem at_left {H : Hp} {a l : Addr} {s n : Int} {ns : List Int} {σ : St} {Q : VK} (p : DealAt H a l s n ns) (hσ : σ[0]? = some (some (.ref a))) (q : Q (.ref l) H) : dAt "left" σ H Q :=
 ⟨_, hσ, a, _, rfl, .inl ⟨_, kLeft, .inl p.ha, rfl, (val_left s n l).symm⟩, q⟩
theorem len_kv (s n : Int) (l : Addr) : (dealKv s n l).length < sizeLine := by rw [sizeLine_eq]; show 3 < 16777216; decide
theorem DealAt.setN {H : Hp} {a l : Addr} {s n : Int} {ns : List Int} (p : DealAt H a l s n ns) {n' : Int} (h : 0 ≤ n') : DealAt (upd H a (dealA s n' l)) a l s n' ns :=
 ⟨p.ne, upd_same, by rw [upd_ne (Ne.symm p.ne)]; exact p.hl, p.s0, p.s1, h, p.ns0⟩
theorem DealAt.setS {H : Hp} {a l : Addr} {s n : Int} {ns : List Int} (p : DealAt H a l s n ns) {s' : Int} (h : 0 ≤ s') (h2 : s' < 4294967296) : DealAt (upd H a (dealA s' n l)) a l s' n ns :=
 ⟨p.ne, upd_same, by rw [upd_ne (Ne.symm p.ne)]; exact p.hl, h, h2, p.n0, p.ns0⟩
theorem put_n {H : Hp} {a l : Addr} {s n : Int} {ns : List Int} (p : DealAt H a l s n ns) (n' : Int) : DPut H a (.str "number") (.int n') (upd H a (dealA s n' l)) :=
 .inl ⟨_, kNum, p.ha, rfl, len_kv s n l, by rw [put_num]; rfl⟩
theorem put_s {H : Hp} {a l : Addr} {s n : Int} {ns : List Int} (p : DealAt H a l s n ns) (s' : Int) : DPut H a (.str "seed") (.int s') (upd H a (dealA s' n l)) :=
 .inl ⟨_, kSeed, p.ha, rfl, len_kv s n l, by rw [put_seed]; rfl⟩
theorem deal_stp {O : Ob} {H H' : Hp} {a l : Addr} {s n s' n' : Int} {ns ns' : List Int} (ma : O.M a) (ml : O.M l) (h2 : ∀ H H' s n ns, O.P H → DealAt H' a l s n ns → (∀ b, O.M b → b ≠ a → b ≠ l → H' b = H b) → O.P H') (p : DealAt H a l s n ns) (p' : DealAt H' a l s' n' ns') (st : PotStp a l H H') : Stp O H H' := by
 refine ⟨fun b o e nm => ?_, fun pp => h2 H H' _ _ _ pp p' fun b _ h3 h4 => st.oth b h3 h4, fun b u hu e => ?_⟩
 · rw [st.oth b (fun z => nm (z ▸ ma)) fun z => nm (z ▸ ml)]; exact e
 · rw [st.oth b (fun z => ?_) fun z => ?_]
   · exact e
   · rw [z, p.ha] at e; cases e; obtain ⟨xs, e1 | ⟨o, e1⟩⟩ := hu <;> cases e1
   · rw [z, p.hl] at e; cases e; obtain ⟨xs, e1 | ⟨o, e1⟩⟩ := hu <;> cases e1
end L3
namespace L3
open PySem PySem.Spec
open PyProof.Rows hiding St
open L2
theorem upd2 (H : Hp) (a : Addr) (x y : HO) : upd (upd H a x) a y = upd H a y := by
 funext b
 by_cases e : b = a
 · subst e; rw [upd_same, upd_same]
 · rw [upd_ne e, upd_ne e, upd_ne e]
theorem tcomp_ints {K : PySem.W.Frag} {c : Addr} {ns : List Int} {σ : St} {H : Hp} {tf : TT} {te : TE} {G : Addr → Hp → Prop} (p : Int → Bool) (f : Int → Int) (hS : SqL K H c (ns.map V.int)) (hz : ns.length ≤ 63)
   (ht : ∀ n H' R, R (p n) H' → tf (some (.int n) :: σ) H' R) (he : ∀ n H' R, R (V.int (f n)) H' → te (some (.int n) :: σ) H' R)
   (q : ∀ D, H D = none → G D (upd H D (.lst (((ns.filter p).map f).map V.int)))) :
   ∀ D, H D = none → ∃ W : Nat → Nat → List V → Hp → Prop, (∃ m, W 0 m [] (upd H D (.lst []))) ∧ ∀ i m ys H', W i m ys H' → H' D = some (.lst ys) ∧ (((Itl K c).stop i H' ∧ G D H') ∨ ((Itl K c).go i H' ∧ ∀ x H'', (Itl K c).yld i H' x H'' → gName 0 x (List.replicate 1 none ++ σ) H'' fun σ2 H2 => tf σ2 H2 fun b H3 =>
     if b = true then te σ2 H3 fun y H4 => H4 D = some (.lst ys) ∧ ys.length < sizeLine ∧ ∃ m', m' < m ∧ W (i + 1) m' (ys ++ [y]) (upd H4 D (.lst (ys ++ [y]))) else ∃ m', m' < m ∧ W (i + 1) m' ys H3)) := by
 intro D hD
 have sz := sizeLine_eq
 refine ⟨fun i m ys H' => m = ns.length - i ∧ i ≤ ns.length ∧ ys = (((ns.take i).filter p).map f).map V.int ∧ H' = upd H D (.lst ys), ⟨_, rfl, Nat.zero_le _, rfl, rfl⟩, ?_⟩
 rintro i m ys H' ⟨rfl, hi, rfl, rfl⟩
 refine ⟨upd_same, ?_⟩
 have hS' := (L3.same_new hD (.lst ((((ns.take i).filter p).map f).map V.int))).seq hS
 by_cases lt : i < ns.length
 · right
   refine ⟨⟨_, .int ns[i], hS', by rw [List.getElem?_map, List.getElem?_eq_getElem lt]; rfl⟩, fun x H'' ⟨e, y⟩ => ?_⟩
   subst e
   have ex := y _ hS'
   rw [List.getElem?_map, List.getElem?_eq_getElem lt] at ex
   cases ex
   show tf (some (.int ns[i]) :: σ) _ _
   have et : (ns.take (i + 1)).filter p = (ns.take i).filter p ++ (if p ns[i] = true then [ns[i]] else []) := by
     rw [List.take_succ_eq_append_getElem lt, List.filter_append, List.filter_cons]
     rfl
   refine ht _ _ _ ?_
   by_cases cc : p ns[i] = true
   · rw [if_pos cc] at et ⊢
     have hlen : ((ns.take i).filter p).length ≤ ns.length := Nat.le_trans (List.length_filter_le _ _) (by rw [List.length_take]; omega)
     refine he _ _ _ ⟨upd_same, by rw [List.length_map, List.length_map]; omega, ns.length - (i + 1), by omega, rfl, lt, ?_, upd2 _ _ _ _⟩
     rw [et, List.map_append, List.map_append]
     rfl
   · rw [if_neg cc] at et ⊢
     rw [List.append_nil] at et
     exact ⟨ns.length - (i + 1), by omega, rfl, lt, by rw [et], rfl⟩
 · left
   have e : i = ns.length := by omega
   subst e
   refine ⟨⟨_, hS', by rw [List.length_map]; exact Nat.le_refl _⟩, ?_⟩
   rw [List.take_length]
   exact q D hD
abbrev rMax2 : List V → Hp → VK → Prop := fun xs H Q => ∃ i j, xs = [.int i, .int j] ∧ Q (.int (if j > i then j else i)) H
def spDeal (K : PySem.W.Frag) : Sp := fun vs H Q _ => ∃ (a : Addr) (ns : List Int), vs = [.ref a, .int 0] ∧ SqL K H a (ns.map V.int) ∧ ns.length ≤ 63 ∧ ∀ p l s left H', H p = none → H l = none → Same H H' → DealAt H' p l s 0 left → Q (.ref p) H'
end L3
namespace L3
open PySem PySem.Spec
open PyProof.Rows hiding St
open L2
structure DC where
 (cb cc ce m2 m3 m4 : Int)
structure DC.Ok (c : DC) : Prop where
 (cc : -(2 ^ 64) < c.cc ∧ c.cc < 2 ^ 64) 
 (m2 : 0 < c.m2 ∧ c.m2 < 4294967296)
 (m3 : 0 < c.m3 ∧ c.m3 < 4294967296)
 (m4 : 0 < c.m4 ∧ c.m4 < 4294967296)
def tDealRG (K : PySem.W.Frag) (c : DC) : TS :=
 tSeq (tAsg (dAt "number") (gName 2))
 (tSeq (tIfS (tTest (tOp (rI0 fun i j => .bl (decide (j < i))) (tVar 2) (tC (.int 0))))
     (tSeq (sDPut (tVar 0) (tC (.str "number")) (tOp (rI CDiv fun i j => .int (i / j)) (tVar 2) (tVar 1))) (tRet (tOp (rI (fun _ j => 0 < j) fun i j => .int (i % j)) (tVar 2) (tVar 1)))) tNext)
 (tSeq (tAsg (tOp (rI (fun _ j => 0 < j) fun i j => .int (i % j)) (tOp (rI0 fun i j => .int (i + j)) (tOp (rI CMul fun i j => .int (i * j)) (dAt "seed") (tC (.int 48271))) (tC (.int c.cb))) (tC (.int 2147483647))) (gName 3))
 (tSeq (sDPut (tVar 0) (tC (.str "seed")) (tOp (rI (fun _ j => 0 < j) fun i j => .int (i % j)) (tOp (rI0 fun i j => .int (i + j)) (tOp (rI CMul fun i j => .int (i * j)) (tVar 3) (tC (.int c.cc))) (tC (.int c.ce))) (tC (.int c.m2))))
 (tSeq (tAsg (tOp (rI (fun _ j => 0 < j) fun i j => .int (i % j)) (tOp (rI CMul fun i j => .int (i * j)) (dAt "seed") (dAt "seed")) (tC (.int c.m3))) (gName 4))
 (tRet (tOp (rI (fun _ j => 0 < j) fun i j => .int (i % j)) (tOp (rI0 fun i j => .int (i + j)) (tOp (rI CMul fun i j => .int (i * j)) (tOp (rI (fun _ j => 0 < j) fun i j => .int (i % j)) (tOp (rI CMul fun i j => .int (i * j)) (tVar 3) (tVar 3)) (tC (.int c.m4))) (tC (.int c.m3))) (tVar 4)) (tVar 1)))))))
def tDealDG (K : PySem.W.Frag) (c : DC) : TS := tSeq (tDealW K) (tDealRG K c)
theorem dealRG_ok {K : PySem.W.Frag} {c : DC} (hc : c.Ok) {H : Hp} {a l : Addr} {s n : Int} {ns : List Int} {m : Int} {D : Ends} (p : DealAt H a l s n ns) (m0 : 0 < m) (m1 : m < 1073741824)
   (q : ∀ k H' s' n' ns', 0 ≤ k → k < m → DealAt H' a l s' n' ns' → PotStp a l H H' → D.rt (.int k) H') : tDealRG K c D [some (.ref a), some (.int m), none, none, none] H := by
 refine at_num p rfl ?_
 refine ⟨_, rfl, n, 0, rfl, rfl, _, rfl, ?_⟩
 refine ite2 (fun _ => ?_) (fun _ => ?_)
 · refine ⟨_, rfl, _, rfl, n, m, rfl, rfl, ⟨m0, m1⟩, ?_⟩
   refine ⟨_, rfl, a, _, rfl, put_n p _, ?_⟩
   exact ⟨_, rfl, _, rfl, n, m, rfl, rfl, m0, q _ _ s _ ns (Int.emod_nonneg _ (by omega)) (Int.emod_lt_of_pos _ m0) (p.setN (Int.ediv_nonneg p.n0 (by omega))) (.upA _)⟩
 · have s0 := p.s0
   have s1 := p.s1
   refine at_seed p rfl ?_
   refine ⟨s, 48271, rfl, rfl, .inl ⟨by omega, by omega⟩, ?_⟩
   refine ⟨_, _, rfl, rfl, _, _, rfl, rfl, (show (0 : Int) < 2147483647 by decide), ?_⟩
   dsimp only
   have e0 : 0 ≤ (s * 48271 + c.cb) % 2147483647 := Int.emod_nonneg _ (by decide)
   have e1 : (s * 48271 + c.cb) % 2147483647 < 2147483647 := Int.emod_lt_of_pos _ (by decide)
   generalize (s * 48271 + c.cb) % 2147483647 = one at e0 e1
   have hm2 := hc.m2
   have hm3 := hc.m3
   have hm4 := hc.m4
   refine ⟨_, rfl, one, c.cc, rfl, rfl, .inl ⟨by omega, by omega⟩, ?_⟩
   refine ⟨_, _, rfl, rfl, _, _, rfl, rfl, hm2.1, ?_⟩
   dsimp only
   have f0 : 0 ≤ (one * c.cc + c.ce) % c.m2 := Int.emod_nonneg _ (by omega)
   have f1 : (one * c.cc + c.ce) % c.m2 < c.m2 := Int.emod_lt_of_pos _ hm2.1
   generalize (one * c.cc + c.ce) % c.m2 = sd at f0 f1
   refine ⟨_, rfl, a, _, rfl, put_s p _, ?_⟩
   have p2 := p.setS (s' := sd) (by omega) (by omega)
   refine at_seed p2 rfl (at_seed p2 rfl ?_)
   refine ⟨sd, sd, rfl, rfl, .inl ⟨by omega, by omega⟩, _, _, rfl, rfl, hm3.1, ?_⟩
   have g0 : 0 ≤ one * one % c.m4 := Int.emod_nonneg _ (by omega)
   have g1 : one * one % c.m4 < c.m4 := Int.emod_lt_of_pos _ hm4.1
   refine ⟨_, rfl, _, rfl, one, one, rfl, rfl, .inl ⟨by omega, by omega⟩, ?_⟩
   refine ⟨_, _, rfl, rfl, hm4.1, _, _, rfl, rfl, .inl ⟨by omega, by omega⟩, ?_⟩
   refine ⟨_, rfl, _, _, rfl, rfl, _, rfl, _, _, rfl, rfl, m0, ?_⟩
   exact q _ _ _ _ _ (Int.emod_nonneg _ (by omega)) (Int.emod_lt_of_pos _ m0) p2 (.upA _)
theorem dealG_ok {K : PySem.W.Frag} {dc : DC} (hc : dc.Ok) {H : Hp} {a l : Addr} {s n : Int} {ns : List Int} {m : Int} {D : Ends} (p : DealAt H a l s n ns) (m0 : 0 < m) (m1 : m < 1073741824)
   (q : ∀ k H' s' n' ns', 0 ≤ k → k < m → DealAt H' a l s' n' ns' → PotStp a l H H' → D.rt (.int k) H') : tDealDG K dc D [some (.ref a), some (.int m), none, none, none] H := by
 refine ⟨fun c σ H' => σ = [some (.ref a), some (.int m), none, none, none] ∧ ∃ s n ns, c = ns.length ∧ DealAt H' a l s n ns ∧ PotStp a l H H', ⟨_, rfl, s, n, ns, rfl, p, .refl _ _ _⟩, ?_⟩
 rintro c σ H1 ⟨rfl, s, n, ns, rfl, p, st⟩
 have out : tDealRG K dc D [some (.ref a), some (.int m), none, none, none] H1 := dealRG_ok hc p m0 m1 fun k H' s' n' ns' h1 h2 h3 h4 => q k H' s' n' ns' h1 h2 h3 (st.trans h4)
 refine at_num p rfl ?_
 refine ⟨rfl, _, rfl, ?_⟩
 refine ite2 (fun c => ?_) (fun c => iteF out)
 refine at_left p rfl ?_
 refine ⟨_, _, rfl, .inl ⟨_, .of p.hl, rfl⟩, _, _, rfl, rfl, _, rfl, ?_⟩
 refine ite2 (fun c2 => ?_) (fun c2 => out)
 have c3 := of_decide_eq_true c2
 have hne : ns ≠ [] := fun e => by rw [e] at c3; simp at c3
 obtain ⟨r, x, rfl⟩ : ∃ r x, ns = r ++ [x] := ⟨ns.dropLast, ns.getLast hne, (List.dropLast_concat_getLast hne).symm⟩
 refine ⟨fun σ' H' => σ' = [some (.ref a), some (.int m), none, none, none] ∧ ∃ s n ns, ns.length < (r ++ [x]).length ∧ DealAt H' a l s n ns ∧ PotStp a l H H', fun σ' H' ⟨e, s, n, ns, hl, h1, h2⟩ => ⟨_, hl, e, s, n, ns, rfl, h1, h2⟩, ?_⟩
 refine at_left p rfl ?_
 have p1 : DealAt (upd H1 l (.lst ((r ++ [x]).map V.int).dropLast)) a l s n r := ⟨p.ne, by rw [upd_ne p.ne]; exact p.ha, by rw [upd_same, List.map_append]; show some (HO.lst (List.dropLast (_ ++ [V.int x]))) = _; rw [List.dropLast_concat], p.s0, p.s1, p.n0, fun z hz => p.ns0 z (List.mem_append_left _ hz)⟩
 refine ⟨.inl ⟨rfl, _, .of p.hl⟩, l, _, .int x, rfl, rfl, p.hl, by simp, ?_⟩
 refine ⟨_, rfl, a, _, rfl, put_n p1 x, rfl, s, x, r, by simp, p1.setN (p.ns0 x (by simp)), st.trans (PotStp.trans (.upL _) (.upA _))⟩
theorem dealDG_body {K : PySem.W.Frag} {c : DC} (hc : c.Ok) {O : Ob} {H : Hp} {ds : List PyData} {ws : List V} {Qr : R → Prop} {Q : VK} {x1 x2 x3 x4 x5 : Str} (hφ : IsDeal O) (p : O.P H) (is : IsAll K (unM O) H ws ds) (q : drawF ds Qr) (kk : ∀ r, Qr r → ∀ v H', Stp O H H' → Out K O H H' v r → Q v H') :
   tDealDG K c { nx := fun _ H' => Q .non H', rt := Q } (L2.start [x1, x2, x3, x4, x5] (O.v :: ws)) H := by
 obtain ⟨m, rfl, m0, m1, q⟩ := q
 obtain ⟨a, l, hv, ma, ml, h1, h2⟩ := hφ.ex
 obtain ⟨s, n, ns, pa⟩ := h1 H p
 obtain ⟨v, rfl, iv⟩ := isAll_one is
 cases iv
 rw [hv]
 exact dealG_ok hc pa m0 m1 fun k H' s' n' ns' k0 k1 p' st => kk _ (q k k0 k1) _ H' (deal_stp ma ml h2 pa p' st) (Is.int k)
def tMakeG (K : PySem.W.Frag) (ti ts : TE) : TS :=
 tSeq (tAsg (tComp 1 (iList K (tSl (rSlL K) (tVar 0) (tPart (tVar 1)) (tPart (tC (.int 63))))) (gName 0) tYes (tCB rMax2 (tCons (tVar 0) (tCons (tOp (rI0 fun i j => .int (i - j)) (tC (.int 0)) (tVar 0)) tNil)))) (gName 2))
 (tSeq (tAsg ti (gName 3))
 (tSeq (tFor (iList K (tVar 2)) (gName 4)
   (tAsg ts (gName 3)))
 (tRet (tDisp [(tC (.str "seed"), tVar 3), (tC (.str "number"), tC (.int 0)), (tC (.str "left"), tLR K (tComp 1 (iList K (tVar 2)) (gName 0) (tTest (tOp (rI0 fun i j => .bl (decide (j ≤ i))) (tVar 0) (tOp (rI CPow fun i j => .int (i ^ j.toNat)) (tC (.int 10)) (tC (.int 18))))) (tVar 0)))]))))
theorem makeG_body {K : PySem.W.Frag} {ti ts : TE} {s0 : Int} (hs0 : 0 ≤ s0) (hs1 : s0 < 4294967296) (hi : ∀ (v v1 : V) H Q, Q (.int s0) H → ti [some v, some (.int 0), some v1, none, none] H Q) (hst : ∀ (v v1 : V) (s n : Int) H Q, 0 ≤ s → s < 4294967296 → (∀ s', 0 ≤ s' → s' < 4294967296 → Q (.int s') H) → ts [some v, some (.int 0), some v1, some (.int s), some (.int n)] H Q) {H : Hp} {Q : VK} {a : Addr} {ns : List Int} (hS : SqL K H a (ns.map V.int)) (hl : ns.length ≤ 63)
   (q : ∀ p l s left H', H p = none → H l = none → Same H H' → DealAt H' p l s 0 left → Q (.ref p) H') : tMakeG K ti ts { nx := fun _ H' => Q .non H', rt := Q } [some (.ref a), some (.int 0), none, none, none] H := by
 have sL := sizeLine_eq
 refine ⟨_, rfl, _, rfl, _, rfl, 63, rfl, a, _, rfl, hS, fun c hc => ?_⟩
 rw [cutV_map]
 have hcl : (cutL ns (some 0) (some 63)).length ≤ 63 := by
   unfold cutL
   rw [List.length_take, List.length_drop]
   omega
 generalize cutL ns (some 0) (some 63) = cs at hcl
 refine ⟨c, rfl, ⟨_, .of upd_same⟩, ?_⟩
 have g1 : Same H (upd H c (.lst (cs.map V.int))) := L3.same_new hc _
 refine tcomp_ints (K := K) (c := c) (H := upd H c (.lst (cs.map V.int))) (σ := [some (.ref a), some (.int 0), none, none, none]) (tf := tYes) (te := tCB rMax2 (tCons (tVar 0) (tCons (tOp (rI0 fun i j => .int (i - j)) (tC (.int 0)) (tVar 0)) tNil))) (fun _ => true) (fun n => if 0 - n > n then 0 - n else n) (.of upd_same) hcl (fun n H' R r => r) (fun n H' R r => ⟨_, rfl, _, rfl, 0, n, rfl, rfl, n, 0 - n, rfl, r⟩) fun d hd => ?_
 have hcs : cs.filter (fun _ => true) = cs := List.filter_eq_self.mpr fun _ _ => rfl
 rw [hcs]
 have habs : ∀ n ∈ cs.map (fun n => if 0 - n > n then 0 - n else n), 0 ≤ n := fun n hn => by
   obtain ⟨m, _, rfl⟩ := List.mem_map.mp hn
   split <;> omega
 have hal : (cs.map (fun n => if 0 - n > n then 0 - n else n)).length ≤ 63 := by rw [List.length_map]; exact hcl
 generalize cs.map (fun n => if 0 - n > n then 0 - n else n) = es at habs hal
 have g2 : Same H (upd (upd H c (.lst (cs.map V.int))) d (.lst (es.map V.int))) := g1.trans (L3.same_new hd _)
 generalize eH : upd (upd H c (.lst (cs.map V.int))) d (.lst (es.map V.int)) = H1 at g2
 have hd1 : H1 d = some (.lst (es.map V.int)) := by rw [← eH]; exact upd_same
 refine hi _ _ _ _ ?_
 refine ⟨_, rfl, d, rfl, ⟨_, .of hd1⟩, ?_⟩
 refine for_list (xs := es.map V.int) (fun i σ H' => ∃ (s : Int) (o : Option V), σ = [some (.ref a), some (.int 0), some (.ref d), some (.int s), o] ∧ 0 ≤ s ∧ s < 4294967296 ∧ H' = H1) ?_ ?_ ?_ ?_
 · exact ⟨_, none, rfl, hs0, hs1, rfl⟩
 · rintro i σ H' hi ⟨s, o, rfl, h1, h2, rfl⟩
   exact .of hd1
 · rintro i x σ H' hx ⟨s, o, rfl, h1, h2, rfl⟩
   rw [List.getElem?_map] at hx
   obtain ⟨n, hn, rfl⟩ := Option.map_eq_some_iff.mp hx
   exact hst _ _ s n _ _ h1 h2 fun s' f0 f1 => ⟨_, _, rfl, f0, f1, rfl⟩
 · rintro σ H' ⟨s, o, rfl, h1, h2, rfl⟩
   intro p hp
   have npd : p ≠ d := fun z => by rw [z, hd1] at hp; cases hp
   refine ⟨_, rfl, ?_⟩
   have hd2 : upd H' p (.dK []) d = some (.lst (es.map V.int)) := by rw [upd_ne (Ne.symm npd)]; exact hd1
   refine ⟨_, rfl, d, rfl, ⟨_, .of hd2⟩, ?_⟩
   refine tcomp_ints (tf := tTest (tOp (rI0 fun i j => .bl (decide (j ≤ i))) (tVar 0) (tOp (rI CPow fun i j => .int (i ^ j.toNat)) (tC (.int 10)) (tC (.int 18))))) (te := tVar 0) (fun n => decide ((10 : Int) ^ (18 : Int).toNat ≤ n)) (fun n => n) (.of hd2) hal (fun n H' R r => ⟨_, rfl, 10, 18, rfl, rfl, ⟨by decide, by decide, by decide⟩, _, _, rfl, rfl, _, rfl, r⟩) (fun n H' R r => ⟨_, rfl, r⟩) fun e he => ?_
   rw [List.map_id']
   have hfl : ∀ n ∈ es.filter (fun n => decide ((10 : Int) ^ (18 : Int).toNat ≤ n)), 0 ≤ n := fun n hn => habs n (List.mem_filter.mp hn).1
   generalize es.filter (fun n => decide ((10 : Int) ^ (18 : Int).toNat ≤ n)) = left at hfl
   have npe : p ≠ e := fun z => by rw [← z, upd_same] at he; cases he
   refine ⟨e, _, rfl, .of upd_same, fun l hln => ?_⟩
   have npl : p ≠ l := fun z => by
     rw [← z, upd_ne npe, upd_same] at hln
     cases hln
   have nel : e ≠ l := fun z => by rw [← z, upd_same] at hln; cases hln
   have hlp : upd H' p (.dK []) l = none := by rw [upd_ne (Ne.symm nel)] at hln; exact hln
   have hlH : H' l = none := by rw [upd_ne (Ne.symm npl)] at hlp; exact hlp
   refine ⟨by rw [upd_ne npl, upd_ne npe]; exact upd_same, dealKv s 0 l, rfl, by show 3 ≤ 15; decide, ?_⟩
   have em : mergeK [] (dealKv s 0 l) = dealKv s 0 l := by
     have a1 : ¬ (kSeed = kNum) := by decide +kernel
     have a2 : ¬ (kSeed = kLeft) := by decide +kernel
     have a3 : ¬ (kNum = kLeft) := by decide +kernel
     simp [mergeK, dealKv, putK, a1, a2, a3]
   rw [em]
   have heH : H' e = none := by rw [upd_ne (Ne.symm npe)] at he; exact he
   have hm : (left.map V.int).reverse = left.reverse.map V.int := List.map_reverse.symm
   rw [hm]
   refine q p l s left.reverse _ (g2.free hp) (g2.free hlH) (fun b o eb => ?_) ⟨npl, upd_same, ?_, h1, h2, Int.le_refl 0, fun n hn => hfl n (List.mem_reverse.mp hn)⟩
   · have e1 := g2 b o eb
     have n1 : b ≠ p := fun z => by rw [z, hp] at e1; cases e1
     have n2 : b ≠ l := fun z => by rw [z, hlH] at e1; cases e1
     have n3 : b ≠ e := fun z => by rw [z, heH] at e1; cases e1
     rw [upd_ne n1, upd_ne n2, upd_ne n3, upd_ne n1]
     exact e1
   · rw [upd_ne (Ne.symm npl)]
     exact upd_same
end L3
namespace L3
open PySem PySem.Spec
open PyProof.Rows hiding St
open L2
def letters2F : List PyData → (R → Prop) → Prop := fun ds Q => ds = [] ∧ ∀ w : List Nat, 1 ≤ w.length → w.length ≤ 3 → (∀ c ∈ w, isLow c) → w.Pairwise (· < ·) → Q (.n (w.map fun c => .str (sg c)))
def tLetters2 (K : PySem.W.Frag) (drawSp : Sp) : TS :=
 tSeq (tAsg (tCB rListS (tCons (tC (.str "abcdefghijklmnopqrstuvwxyz")) tNil)) (gName 1))
 (tRet (tCB rSortS (tCons (tComp 1 (iRng1 (tCons (tOp (rI0 fun i j => .int (i + j)) (tC (.int 1)) (tCall drawSp [] E0 (tCons (tVar 0) (tCons (tC (.int 3)) tNil)))) tNil)) (gName 0) tYes (tBM K "list" rPopAt (tVar 2) (tCons (tCall drawSp [] E0 (tCons (tVar 1) (tCons (tCB (lenR K) (tCons (tVar 2) tNil)) tNil))) tNil))) tNil)))
theorem letters2_body {K : PySem.W.Frag} {φ : Ob → Prop} (hp : ∀ (O : Ob) (D : Addr) (u : HO), φ O → ¬ O.M D → φ (O.plus D u)) {O : Ob} {H : Hp} {ds : List PyData} {ws : List V} {Qr : R → Prop} {Q : VK} {x1 x2 : Str} (ok : O.Ok) (hφ : φ O) (p : O.P H) (is : IsAll K (unM O) H ws ds) (q : letters2F ds Qr) (kk : ∀ r, Qr r → ∀ v H', Stp O H H' → Out K O H H' v r → Q v H') :
   tLetters2 K (spD K φ 1 drawF) { nx := fun _ H' => Q .non H', rt := Q } (L2.start [x1, x2] (O.v :: ws)) H := by
 obtain ⟨rfl, q⟩ := q
 cases is
 have hsz : sizeLine = 16777216 := sizeLine_eq
 refine ⟨_, rfl, by decide, fun l hl => ?_⟩
 have eabc : (Str.ofString "abcdefghijklmnopqrstuvwxyz").cps.toList = abc := by decide +kernel
 rw [eabc]
 have sl : Stp O H (upd H l (.lst (abc.map fun c => V.str (sg c)))) := .new ok hl _
 have nMl : ¬ O.M l := fun mm => by obtain ⟨o, z⟩ := ok.here H l p mm; rw [hl] at z; cases z
 have al : ∀ b o, H b = some o → b ≠ l := fun b o e z => by rw [z, hl] at e; cases e
 have okl := ok.plus l (abc.map fun c => V.str (sg c))
 have hpl : φ (O.plus l (.lst (abc.map fun c => V.str (sg c)))) := hp _ l _ hφ nMl
 have pl0 : (O.plus l (.lst (abc.map fun c => V.str (sg c)))).P (upd H l (.lst (abc.map fun c => V.str (sg c)))) := ⟨sl.p p, upd_same⟩
 refine ⟨_, rfl, ?_⟩
 show spD K φ 1 drawF ([O.v, V.int 3] ++ []) _ _ E0
 refine ⟨_, [.int 3], [.int 3], fun x => ∃ k : Int, x = .o (.int k) ∧ 0 ≤ k ∧ k < 3, okl, hpl, pl0, rfl, rfl, .cons (.int _) .nil, ⟨_, rfl, by omega, by omega, fun k k0 k1 => ⟨k, rfl, k0, k1⟩⟩, ?_⟩
 rintro _ ⟨k, rfl, k0, k1⟩ v H0 st0 o0
 cases o0
 obtain ⟨p0, hl0⟩ := st0.p pl0
 refine ⟨_, _, rfl, rfl, ?_⟩
 obtain ⟨m, em⟩ : ∃ m : Int, m = 1 + k := ⟨_, rfl⟩
 refine ⟨m, by rw [em], by omega, by omega, fun D hD => ?_⟩
 have kp0 : ∀ b o, H b = some o → ¬ O.M b → H0 b = some o := fun b o e n => st0.s b o (by rw [upd_ne (al b o e)]; exact e) fun mm => by
   rcases mm with mm | mm
   · exact n mm
   · exact al b o e mm
 have ts0 : TupStay H H0 := fun b u hu e => st0.t b u hu (by rw [upd_ne (al b u e)]; exact e)
 have nlD : l ≠ D := fun z => by rw [← z, hl0] at hD; cases hD
 have nMD : ¬ O.M D := fun mm => by obtain ⟨o, z⟩ := ok.here H0 D p0 mm; rw [hD] at z; cases z
 have hDH : H D = none := by
   cases e : H D with
   | none => rfl
   | some o => have := kp0 D o e nMD; rw [hD] at this; cases this
 have aD : ∀ b o, H b = some o → b ≠ D := fun b o e z => by rw [z, hDH] at e; cases e
 have pl : ∀ {H' : Hp} {b : Addr} {o : HO}, ¬ O.M b → O.P H' → O.P (upd H' b o) := fun {H' b o} nb pp => ok.loc H' _ (fun c mc => upd_ne fun z => nb (z ▸ mc)) pp
 refine ⟨fun i c ys H' => c = m.toNat - i ∧ i ≤ m.toNat ∧ H' D = some (.lst ys) ∧ (∃ w r : List Nat, ys = w.map (fun c => V.str (sg c)) ∧ w.length = i ∧ (∀ c ∈ w, isLow c) ∧ H' l = some (.lst (r.map fun c => V.str (sg c))) ∧ r.length + i = 26 ∧ (∀ c ∈ r, isLow c) ∧ (w ++ r).Nodup) ∧
     O.P H' ∧ (∀ b o, H b = some o → ¬ O.M b → H' b = some o) ∧ TupStay H H', ⟨_, rfl, Nat.zero_le _, upd_same, ⟨[], abc, rfl, rfl, by simp, by rw [upd_ne nlD]; exact hl0, rfl, by unfold isLow; decide, by decide⟩, pl nMD p0, fun b o e n => ?_, fun b u _ e => ?_⟩, ?_⟩
 · rw [upd_ne (aD b o e)]; exact kp0 b o e n
 · rw [upd_ne (aD b u e)]; exact ts0 b u ‹_› e
 rintro i c ys H' ⟨rfl, hi, hDy, ⟨w, r, rfl, hw, hwl, hr, hrl, hrc, hnd⟩, pp, kp, ts⟩
 refine ⟨hDy, ?_⟩
 by_cases hlt : i < m.toNat
 · right
   refine ⟨hlt, fun x H2 ⟨e2, _⟩ => ?_⟩
   subst e2
   have hr0 : 0 < r.length := by omega
   show tBM K "list" rPopAt (tVar 2) _ _ H2 _
   refine ⟨_, rfl, .inl ⟨rfl, _, .of hr⟩, _, rfl, ?_⟩
   refine ⟨_, rfl, _, r.length, rfl, .inl ⟨_, .of hr, by rw [List.length_map]⟩, ?_⟩
   have okp := (ok.plus D (w.map fun c => V.str (sg c))).plus l (r.map fun c => V.str (sg c))
   have nl2 : ¬ (O.plus D (.lst (w.map fun c => V.str (sg c)))).M l := fun mm => by
     rcases mm with mm | mm
     · exact nMl mm
     · exact nlD mm
   show spD K φ 1 drawF ([O.v, V.int r.length] ++ []) H2 _ E0
   refine ⟨_, [.int r.length], [.int r.length], fun x => ∃ k : Int, x = .o (.int k) ∧ 0 ≤ k ∧ k < r.length, okp, hp _ l _ (hp _ D _ hφ nMD) nl2, ⟨⟨pp, hDy⟩, hr⟩, rfl, rfl, .cons (.int _) .nil, ⟨_, rfl, by omega, by omega, fun k k0 k1 => ⟨k, rfl, k0, k1⟩⟩, ?_⟩
   rintro _ ⟨k, rfl, k0, k1⟩ v H3 st o3
   cases o3
   obtain ⟨⟨p3, hD3⟩, hl3⟩ := st.p ⟨⟨pp, hDy⟩, hr⟩
   have hk : k.toNat < r.length := by omega
   have ek : k = ((k.toNat : Nat) : Int) := by omega
   refine ⟨l, _, k, k.toNat, V.str (sg r[k.toNat]), rfl, rfl, hl3, by omega, by omega, ?_, by rw [List.getElem?_map, List.getElem?_eq_getElem hk]; rfl, ?_⟩
   · rw [List.length_map]
     unfold seqIndex?
     simp only [show ¬ k < 0 by omega, if_false]
     first | (rw [if_pos (by omega)]) | (simp; omega) | omega
   · have ne1 : D ≠ l := Ne.symm nlD
     refine ⟨by rw [upd_ne ne1]; exact hD3, by rw [List.length_map]; omega, m.toNat - (i + 1), by omega, rfl, hlt, upd_same, ⟨w ++ [r[k.toNat]], r.eraseIdx k.toNat, by rw [List.map_append]; rfl, by rw [List.length_append, hw]; rfl, fun c hc => ?_, ?_, ?_, fun c hc => hrc c (eraseIdx_mem hc), ?_⟩, pl nMD (pl nMl p3), fun b o e n => ?_, fun b u hu e => ?_⟩
     · rcases List.mem_append.mp hc with hc | hc
       · exact hwl c hc
       · rw [List.mem_singleton.mp hc]; exact hrc _ (List.getElem_mem hk)
     · rw [upd_ne nlD, upd_same, erase_map]
     · rw [List.length_eraseIdx]
       rw [if_pos hk]
       omega
     · rw [List.append_assoc]
       refine (List.Perm.nodup_iff (List.Perm.append_left w ?_)).mp hnd
       exact (perm_pick hk).symm
     · rw [upd_ne (aD b o e), upd_ne (al b o e)]
       exact st.s b o (kp b o e n) fun mm => by
         rcases mm with (mm | mm) | mm
         · exact n mm
         · exact aD b o e mm
         · exact al b o e mm
     · rw [upd_ne (aD b u e), upd_ne (al b u e)]
       exact st.t b u hu (ts b u hu e)
 · left
   have e : i = m.toNat := by omega
   refine ⟨by show m.toNat ≤ i; omega, ?_⟩
   refine ⟨D, w.map sg, rfl, by rw [hDy, List.map_map]; rfl, by rw [List.length_map]; omega, fun zs z hpm hs hz => ?_⟩
   obtain ⟨w2, rfl, hw2⟩ := unsg (zs := zs) fun y hy => by
     obtain ⟨c, hc, rfl⟩ := List.mem_map.mp (hpm.mem_iff.mp hy)
     exact ⟨c, rfl, hwl c hc⟩
   have hlen : w2.length = w.length := by have := hpm.length_eq; simpa using this
   have hinc : w2.Pairwise (· < ·) := by
     refine sorted_inc hs ?_
     have hw1 : (w.map sg).Nodup := List.pairwise_map.mpr ((List.nodup_append.mp hnd).1.imp fun ne e => ne (sg_inj e))
     have hw3 : (w2.map sg).Nodup := hpm.symm.nodup_iff.mp hw1
     exact (List.pairwise_map.mp hw3).imp fun ne e => ne (congrArg sg e)
   have az : ∀ b o, H b = some o → ¬ O.M b → b ≠ z := fun b o eb n e2 => by rw [e2] at eb; have := kp z o eb (e2 ▸ n); rw [hz] at this; cases this
   have nMz : ¬ O.M z := fun mm => by obtain ⟨o, y⟩ := ok.here H' z pp mm; rw [hz] at y; cases y
   have hzH : H z = none := by
     cases e : H z with
     | none => rfl
     | some o => have := kp z o e nMz; rw [hz] at this; cases this
   refine kk _ (q w2 (by omega) (by omega) hw2 hinc) _ _ ⟨fun b o eb n => by rw [upd_ne (az b o eb n)]; exact kp b o eb n, fun _ => pl nMz pp, fun b u hu eb => ?_⟩ ⟨z, _, rfl, hzH, upd_same, ?_⟩
   · have h1 := ts b u hu eb
     rw [upd_ne fun e2 => by rw [e2, hz] at h1; cases h1]
     exact h1
   · have := strs_isAll (K := K) (F := unM O) (H := upd H' z (.lst ((w2.map sg).map V.str))) (w2.map sg)
     rw [List.map_map (g := PyData.str)] at this
     exact this
theorem letters2_deal {K : PySem.W.Frag} {O : Ob} {H : Hp} {ds : List PyData} {ws : List V} {Qr : R → Prop} {Q : VK} {x1 x2 : Str} (ok : O.Ok) (hφ : IsDeal O) (p : O.P H) (is : IsAll K (unM O) H ws ds) (q : letters2F ds Qr) (kk : ∀ r, Qr r → ∀ v H', Stp O H H' → Out K O H H' v r → Q v H') :
   tLetters2 K (spD K IsDeal 1 drawF) { nx := fun _ H' => Q .non H', rt := Q } (L2.start [x1, x2] (O.v :: ws)) H := letters2_body (fun O D u h n => h.plus D u n) ok hφ p is q kk
end L3
namespace L3
section
open PySem PySem.Builtin PySem.Builtin.Str
def sOk (x : PySem.Str) : Prop := ∀ c ∈ x.cps.toList, c < 0x110000
theorem strOk_iff {x : PySem.Str} : PyData.strOk x = true ↔ sOk x := by
 unfold PyData.strOk sOk
 rw [Array.all_eq_true']
 simp
theorem sOk_app {x y : PySem.Str} (hx : sOk x) (hy : sOk y) : sOk (x ++ y) := by
 intro c hc
 have e : (x ++ y).cps.toList = x.cps.toList ++ y.cps.toList := by
   show (x.cps ++ y.cps).toList = _
   simp
 rw [e] at hc
 rcases List.mem_append.mp hc with hc | hc
 · exact hx c hc
 · exact hy c hc
theorem char_lt (c : Char) : c.toNat < 0x110000 := by
 have := c.valid
 rcases this with h | h
 · exact Nat.lt_trans h (by decide)
 · exact h.2
theorem sOk_of (s : String) : sOk (PySem.Str.ofString s) := by
 intro c hc
 have : c ∈ (s.toList.map Char.toNat) := by rw [PySem.Str.ofString_eq_toList] at hc; simpa using hc
 obtain ⟨d, _, rfl⟩ := List.mem_map.mp this
 exact char_lt d
theorem sOk_join {sep : PySem.Str} (hs : sOk sep) : ∀ {l : List PySem.Str}, (∀ x ∈ l, sOk x) → sOk (PySem.Str.join sep l)
 | [], _ => fun c hc => by cases hc
 | [x], h => h x (by simp)
 | x :: y :: r, h => sOk_app (sOk_app (h x (by simp)) hs) (sOk_join hs (l := y :: r) fun z hz => h z (List.mem_cons_of_mem _ hz))
theorem rc_ok {q c : Nat} (hc : c < 0x110000) : ∀ x ∈ reprChar q c, x < 0x110000 := by
 have hex : ∀ w : Nat, ∀ x ∈ (List.replicate (w - ((Nat.toDigits 16 c).map Char.toNat).length) 48 ++ (Nat.toDigits 16 c).map Char.toNat), x < 0x110000 := by
   intro w x hx
   rcases List.mem_append.mp hx with hx | hx
   · rw [(List.mem_replicate.mp hx).2]; decide
   · obtain ⟨d, _, rfl⟩ := List.mem_map.mp hx
     exact char_lt d
 have two : ∀ a b : Nat, a < 0x110000 → b < 0x110000 → ∀ x ∈ [a, b], x < 0x110000 := by
   intro a b ha hb x hx
   rcases List.mem_cons.mp hx with rfl | hx
   · exact ha
   · rw [List.mem_singleton.mp hx]; exact hb
 have tw : ∀ a b w : Nat, a < 0x110000 → b < 0x110000 → ∀ x ∈ [a, b] ++ (List.replicate (w - ((Nat.toDigits 16 c).map Char.toNat).length) 48 ++ (Nat.toDigits 16 c).map Char.toNat), x < 0x110000 := by
   intro a b w ha hb x hx
   rcases List.mem_append.mp hx with hx | hx
   · exact two a b ha hb x hx
   · exact hex w x hx
 intro x
 unfold reprChar
 dsimp only
 split
 · exact two _ _ (by decide) hc x
 split
 · exact two _ _ (by decide) (by decide) x
 split
 · exact two _ _ (by decide) (by decide) x
 split
 · exact two _ _ (by decide) (by decide) x
 split
 · intro hx; rw [List.mem_singleton.mp hx]; exact hc
 split
 · exact tw _ _ 2 (by decide) (by decide) x
 split
 · exact tw _ _ 4 (by decide) (by decide) x
 · exact tw _ _ 8 (by decide) (by decide) x
theorem sOk_repr {x : PySem.Str} (h : sOk x) : sOk (reprText x) := by
 have key : ∀ (q : Nat) (l : List Nat) (acc : Array Nat), (∀ c ∈ l, c < 0x110000) → (∀ c ∈ acc.toList, c < 0x110000) → ∀ c ∈ (l.foldl (fun out c => out ++ (reprChar q c).toArray) acc).toList, c < 0x110000 := by
   intro q l
   induction l with
   | nil => intro acc _ ha; exact ha
   | cons c l ih =>
     intro acc hl ha
     refine ih _ (fun d hd => hl d (List.mem_cons_of_mem _ hd)) fun d hd => ?_
     rw [Array.toList_append] at hd
     rcases List.mem_append.mp hd with hd | hd
     · exact ha d hd
     · exact rc_ok (hl c List.mem_cons_self) d (by simpa using hd)
 have hq : reprQuote x < 0x110000 := by unfold reprQuote; split <;> decide
 intro c hc
 unfold reprText at hc
 rw [Array.toList_push, ← Array.foldl_toList] at hc
 rcases List.mem_append.mp hc with hc | hc
 · have h0 : ∀ d ∈ (#[reprQuote x] : Array Nat).toList, d < 0x110000 := fun d hd => by
     have e : d = reprQuote x := by simpa using hd
     rw [e]
     exact hq
   exact key _ _ _ h h0 c hc
 · rw [List.mem_singleton.mp hc]; exact hq
end
open PySem PySem.Spec
open PyProof.Rows hiding St
open L2
mutual
theorem sOk_shown : ∀ d : PyData, d.canLay0 = true → sOk d.shown
 | .none, _ => by rw [PyData.shown_none]; exact sOk_of _
 | .bool b, _ => by rw [PyData.shown_bool]; cases b <;> exact sOk_of _
 | .int i, _ => by rw [PyData.shown_int]; exact sOk_of _
 | .str x, h => by rw [PyData.shown_str]; exact sOk_repr (strOk_iff.mp (by simpa [PyData.canLay0] using h))
 | .list xs, h => by
   rw [PyData.shown_list]
   exact sOk_app (sOk_app (sOk_of _) (sOk_join (sOk_of _) (sOk_shownAll xs (by simpa [PyData.canLay0] using h)))) (sOk_of _)
 | .tuple xs, h => by
   rw [PyData.shown_tuple]
   exact sOk_app (sOk_app (sOk_of _) (sOk_join (sOk_of _) (sOk_shownAll xs (by simpa [PyData.canLay0] using h)))) (sOk_of _)
 | .dict _, h => by simp [PyData.canLay0] at h
theorem sOk_shownAll : ∀ xs : List PyData, PyData.canLayAll0 xs = true → ∀ x ∈ PyData.shownAll xs, sOk x
 | [], _, _, hx => by simp [PyData.shownAll] at hx
 | d :: xs, h, x, hx => by
   rw [PyData.canLayAll0, Bool.and_eq_true] at h
   rw [PyData.shownAll_cons] at hx
   rcases List.mem_cons.mp hx with e | hx
   · rw [e]; exact sOk_shown d h.1
   · exact sOk_shownAll xs h.2 x hx
end
theorem repr_ok {d : PyData} (h1 : d.canLay0 = true) (h2 : d.showable = true) (h3 : d.depth ≤ 60) (h4 : d.leavesShort 13 = true) (h5 : d.bulk ≤ 2 ^ 20) : ∃ x, reprF [d] = some (.o (.str x)) ∧ PyData.strOk x = true := by
 refine ⟨d.shown, ?_, strOk_iff.mpr (sOk_shown d h1)⟩
 unfold reprF
 dsimp only
 rw [if_pos]
 rw [h2, PyData.hasDict_of_canLay d h1, decide_eq_true h3, decide_eq_true (PyData.shown_fits_bulk (B := 13) (by decide) (by decide) h4 h5)]
 rfl
theorem short_str {x : Str} (h : PyData.strOk x = true) {B : Nat} : (PyData.str x).leavesShort B = true := by
 have h := strOk_iff.mp h
 rw [PyData.leavesShort, List.all_eq_true]
 intro c hc
 have := h c hc
 exact decide_eq_true (by omega)
end L3
namespace L3
open PySem PySem.Spec
open PyProof.Rows hiding St
open L2
section
variable {K : PySem.W.Frag} {O : Ob} {X : Cx}
def chD (F F' : PyData → PyData → (R → Prop) → Prop) (fa fb fc : DE) : DE := fun ρ Q => fa ρ fun a => fb ρ fun b => F a.d b.d fun z => ∃ k, z.d = .bool k ∧ (if k = true then fc ρ fun c => F' b.d c.d Q else Q (.o (.bool false)))
theorem ed_chain {r r' : R2} {ta tb tc : TE} {F F' : PyData → PyData → (R → Prop) → Prop} {fa fb fc : DE} (hr : OpD K O r F) (hr' : OpD K O r' F') (ha : ED K O ta fa) (hb : ED K O tb fb) (hc : ED K O tc fc) : ED K O (tChain r r' ta tb tc) (chD F F' fa fb fc) := fun σ H ρ Q Qd S h k => by
 refine ha σ H ρ _ _ S h fun v H1 a s1 o1 h1 => ?_
 refine hb σ H1 ρ _ _ (S.stp s1) h1 fun w H2 b s2 o2 h2 => ?_
 have p1 := s1.p S.p
 have p2 := s2.p p1
 have ib := o2.is S.ok p1
 refine hr H2 v w a.d b.d _ _ S.ok p2 (Is.stp s2 (fun _ f => f) (fun _ f => f) (o1.is S.ok S.p)) ib h2 fun z H3 c s3 o3 ⟨kk, e, h3⟩ => ?_
 have iz := o3.is S.ok p2
 rw [e] at iz
 cases iz
 refine ⟨kk, rfl, ?_⟩
 cases kk with
 | true =>
   refine hc σ H3 ρ _ _ (((S.stp s1).stp s2).stp s3) h3 fun x H4 d s4 o4 h4 => ?_
   have p3 := s3.p p2
   refine hr' H4 w x b.d d.d _ _ S.ok (s4.p p3) (Is.stp s4 (fun _ f => f) (fun _ f => f) (Is.stp s3 (fun _ f => f) (fun _ f => f) ib)) (o4.is S.ok p3) h4 fun z H5 r5 s5 o5 h5 => ?_
   exact k z H5 r5 ((((s1.trans s2).trans s3).trans s4).trans s5) (Out.ahead S.ok S.p (((s1.trans s2).trans s3).trans s4) o5) h5
 | false => exact k _ H3 (.o (.bool false)) ((s1.trans s2).trans s3) (Is.bool false) h3
end
section
variable {ι κ : Type} {P : Program} {w : World} {K : PySem.W.Frag} {mg : Str → Option Value} {base : Heap} {k : Nat} {X : ι → Cx} {O : κ → Ob} {a b c : Expr} {fa fb fc : DE} {pos p : Pos} {st : Stmt} {es : List Expr} {ga : DA}
theorem e_chain {op op' : CmpOp} {r r' : R2} {F F' : PyData → PyData → (R → Prop) → Prop} (ho : ∀ i, OpR (X i) (compareOp op) r) (ho' : ∀ i, OpR (X i) (compareOp op') r') (hd : ∀ j, OpD K (O j) r F) (hd' : ∀ j, OpD K (O j) r' F') (ha : E3 K X O a fa) (hb : E3 K X O b fb) (hc : E3 K X O c fc)
   (hm : lastMarks [op, op'] [b, c] = false := by with_unfolding_all rfl) : E3 K X O (.Compare a [op, op'] [b, c] pos) (chD F F' fa fb fc) :=
 let ⟨_, p1, d1⟩ := ha; let ⟨_, p2, d2⟩ := hb; let ⟨_, p3, d3⟩ := hc; ⟨_, fun i => pe_chain (ho i) (ho' i) (p1 i) (p2 i) (p3 i) hm, fun j => ed_chain (hd j) (hd' j) (d1 j) (d2 j) (d3 j)⟩
end
end L3
namespace L3
open PySem PySem.Spec
open PyProof.Rows hiding St
open L2
theorem mk_law5 {P : Program} {w : World} {K : PySem.W.Frag} {mg : Str → Option Value} {base : Heap} {k : Nat} {st st0 : Stmt} {rest : List Stmt} {N : List Str} {f₁ : Addr} {fd₁ : FuncData} (Fu : Fun K "law" "law" st f₁ fd₁) (S : FnScope ("_law_script" :: "_law_deal_here" :: N) ["_law_script"] (defScope st))
   (hs : defBody st = st0 :: rest)
   (first : ∀ (f : Addr) (cdv : Value) (A : Around) (outer : List Env) (s : Shared) (H : Hp) (E : XK), Ctx3 P w K mg base k (bodyX P w K mg base ("_law_script" :: "_law_deal_here" :: N) "law" (defScope st) f cdv A outer s H E) →
     PS (bodyX P w K mg base ("_law_script" :: "_law_deal_here" :: N) "law" (defScope st) f cdv A outer s H E ()) st0 (tAsg (tCall (spDeal K) [] E0 (tCons (tVar 0) (tCons (tC (.int 0)) tNil))) (gName 1)))
   (body : ∀ (f : Addr) (cdv : Value) (A : Around) (outer : List Env) (s : Shared) (H : Hp) (E : XK), Ctx3 P w K mg base k (bodyX P w K mg base ("_law_script" :: "_law_deal_here" :: N) "law" (defScope st) f cdv A outer s H E) →
     ∃ g, Ss3 K (bodyX P w K mg base ("_law_script" :: "_law_deal_here" :: N) "law" (defScope st) f cdv A outer s H E) (fun j : Addr × Addr => dealOb j.1 j.2) rest g ∧ g { nx := fun _ => False, rt := fun r => r = .o (.bool true) } (none :: some .ob :: List.replicate N.length none)) :
   FnOk P w K mg base CX0 (k + 1) f₁ fd₁ ["_law_script"] (spLaw K) := by
 refine Fu.ok S (fun vs H Q E h => by obtain ⟨a, ns, rfl, _⟩ := h; rfl) (fun cdv A outer s H vs Q E hr h => ?_)
 obtain ⟨a, ns, rfl, hS, hl, q⟩ := h
 have C := ctx_body (P := P) (w := w) (K := K) (mg := mg) (base := base) (N := "_law_script" :: "_law_deal_here" :: N) (x := "law") (sc := defScope st) (f := f₁) (cdv := cdv) (A := A) (outer := outer) (s := s) (H := H) (E := E) hr
 obtain ⟨g, ⟨t, h1, h2⟩, h3⟩ := body f₁ cdv A outer s H E C
 refine ⟨tSeq (tAsg (tCall (spDeal K) [] E0 (tCons (tVar 0) (tCons (tC (.int 0)) tNil))) (gName 1)) t, ?_, ?_⟩
 · rw [hs]
   exact pss_cons (first f₁ cdv A outer s H E C) (h1 ())
 · refine ⟨_, rfl, a, ns, rfl, hS, hl, fun p l s left H' hp hln sm pa => ?_⟩
   refine h2 (p, l) H' (fun _ _ => False) _ H' _ _ _ ⟨dealOb_ok p l, ⟨s, 0, left, pa⟩, ⟨s, 0, left, pa⟩, .refl _ _, fun _ _ _ z => z.elim, fun _ _ z => z.elim, fun i r e => ?_, ?_⟩ h3 ⟨fun _ _ _ _ _ _ z => z.elim, fun _ _ _ _ _ _ z => z.elim, fun _ _ _ _ _ _ z => z.elim, fun H' v r _ o e => ?_⟩
   · match i with
     | 0 => cases e
     | 1 => cases e; exact ⟨_, rfl, rfl⟩
     | i + 2 =>
       rw [List.getElem?_cons_succ, List.getElem?_cons_succ, List.getElem?_replicate] at e
       split at e <;> cases e
   · rw [List.length_set]
     simp [L2.start]
   · subst e
     cases o
     exact q H'
end L3
namespace L50
open PySem PySem.Spec
open PyProof.Rows hiding St
open L2 L3
def top (i : Nat) : Stmt := PySem.Challenge.pw_lostpost_k50_trees.main.body.getD i (.Pass ⟨0, 0, 0, 0⟩)
section
variable {P : Program} {w : World} {K : PySem.W.Frag} {mg : Str → Option Value} {base : Heap} {k : Nat}
abbrev DDraw (P : Program) (w : World) (K : PySem.W.Frag) (mg : Str → Option Value) (base : Heap) : Prop := Def3 P w K mg base 1 "_law_draw" ["_law_deal_here", "_law_many"] (spD K IsDeal 1 drawF)
abbrev sDeal : Stmt := top 11
theorem scDeal : FnScope ["_law_script", "_law_base", "_law_cells", "_law_number", "_law_cell"] ["_law_script", "_law_base"] (defScope sDeal) := ⟨rfl, rfl, rfl, by decide +kernel, rfl, by decide +kernel, by decide +kernel⟩
theorem d_law_deal (B : Blt mg) (T : Top3 K mg "_law_deal" sDeal) : Def3 P w K mg base 1 "_law_deal" ["_law_script", "_law_base"] (spDeal K) := by
 obtain ⟨f, fd, Fu, m⟩ := T.ex
 refine ⟨f, fd, Fu.ok scDeal (fun vs H Q E h => by obtain ⟨a, ns, rfl, _⟩ := h; rfl) (fun cdv A outer s H vs Q E hr h => ?_), m, Fu.kp, Fu.binds (fun _ _ _ _ _ _ us hl => len2 hl fun _ _ => rfl)⟩
 obtain ⟨a, ns, rfl, hS, hl, q⟩ := h
 refine ⟨tMakeG K (tOp (rI0 fun i j => .int (i + j)) (tC (.int 7919)) (tVar 1)) (tOp (rI (fun _ j => 0 < j) fun i j => .int (i % j)) (tOp (rI0 fun i j => .int (i + j)) (tOp (rI CMul fun i j => .int (i * j)) (tVar 3) (tC (.int 48271))) (tOp (rI (fun _ j => 0 < j) fun i j => .int (i % j)) (tVar 4) (tC (.int 2147483629)))) (tC (.int 2147483647))), ?_, makeG_body (s0 := 7919 + 0) (by decide) (by decide) (fun v v1 H Q q => ⟨_, rfl, 7919, 0, rfl, rfl, q⟩) (fun v v1 s n H Q h1 h2 q => ⟨_, rfl, s, 48271, rfl, rfl, .inl ⟨by omega, by omega⟩, _, rfl, n, 2147483629, rfl, rfl, (show (0 : Int) < 2147483629 by decide), _, _, rfl, rfl, _, _, rfl, rfl, (show (0 : Int) < 2147483647 by decide), q _ (Int.emod_nonneg _ (by decide)) (Int.lt_of_lt_of_le (Int.emod_lt_of_pos _ (by decide)) (by decide))⟩) hS hl q⟩
 have nd : (["_law_script", "_law_base", "_law_cells", "_law_number", "_law_cell"] : List Str).Nodup := by decide +kernel
 exact (pss_cons (ps_setComp (n0 := 2) nd rfl rfl rfl 1 (N' := ["_law_cell", "_law_script", "_law_base", "_law_cells", "_law_number", "._law_cell"]) (.of rfl (by kernel_rfl)) rfl (pi_list (pe_slice sl_list (pe_var (i := 0) rfl (by first | exact Or.inl rfl | exact Or.inr (Or.inl rfl) | exact Or.inr (Or.inr rfl))) (po_some (pe_var (i := 1) rfl (by first | exact Or.inl rfl | exact Or.inr (Or.inl rfl) | exact Or.inr (Or.inr rfl)))) (po_some pe_int))) (fun C s H ex => pg_name (of_decide_eq_true (by kernel_rfl)) rfl (by first | exact Or.inl rfl | exact Or.inr rfl) (by first | exact .inl rfl | exact .inr rfl)) (own_name (by decide)) (fun C s H ex => pf_nil) (fun C s H ex => pe_callB (call_max2 rfl) rfl B.max bt_max (pa_cons (pe_var (i := 0) rfl (by first | exact Or.inl rfl | exact Or.inr (Or.inl rfl) | exact Or.inr (Or.inr rfl))) (pa_cons (pe_op op_sub pe_int (pe_var (i := 0) rfl (by first | exact Or.inl rfl | exact Or.inr (Or.inl rfl) | exact Or.inr (Or.inr rfl)))) pa_nil))))
   (pss_cons (ps_set (i := 3) nd rfl (by first | exact Or.inl rfl | exact Or.inr rfl) (pe_op op_add pe_int (pe_var (i := 1) rfl (by first | exact Or.inl rfl | exact Or.inr (Or.inl rfl) | exact Or.inr (Or.inr rfl)))))
   (pss_cons (ps_for PassesOwn.never rfl (pi_list (pe_var (i := 2) rfl (by first | exact Or.inl rfl | exact Or.inr (Or.inl rfl) | exact Or.inr (Or.inr rfl)))) (pg_name (i := 4) nd rfl (by first | exact Or.inl rfl | exact Or.inr rfl)) (pss_one (ps_set (i := 3) nd rfl (by first | exact Or.inl rfl | exact Or.inr rfl) (pe_op op_mod (pe_op op_add (pe_op op_mul (pe_var (i := 3) rfl (by first | exact Or.inl rfl | exact Or.inr (Or.inl rfl) | exact Or.inr (Or.inr rfl))) pe_int) (pe_op op_mod (pe_var (i := 4) rfl (by first | exact Or.inl rfl | exact Or.inr (Or.inl rfl) | exact Or.inr (Or.inr rfl))) pe_int)) pe_int))))
   (pss_one (ps_ret (pe_disp (pps_cons pe_str (pe_var (i := 3) rfl (by first | exact Or.inl rfl | exact Or.inr (Or.inl rfl) | exact Or.inr (Or.inr rfl))) (pps_cons pe_str pe_int (pps_cons pe_str (pe_listrev (hr.hd) rfl B.list rfl B.reversed (pe_comp 1 (N' := ["_law_cell", "_law_script", "_law_base", "_law_cells", "_law_number", "._law_cell"]) (.of rfl (by kernel_rfl)) rfl (pi_list (pe_var (i := 2) rfl (by first | exact Or.inl rfl | exact Or.inr (Or.inl rfl) | exact Or.inr (Or.inr rfl)))) (fun C s H ex => pg_name (of_decide_eq_true (by kernel_rfl)) rfl (by first | exact Or.inl rfl | exact Or.inr rfl) (by first | exact .inl rfl | exact .inr rfl)) (own_name (by decide)) (fun C s H ex => pf_one (pt_cmpR op_ge (pe_var (i := 0) rfl (by first | exact Or.inl rfl | exact Or.inr (Or.inl rfl) | exact Or.inr (Or.inr rfl))) (pe_op op_pow pe_int pe_int) (nomark _))) (fun C s H ex => (pe_var (i := 0) rfl (by first | exact Or.inl rfl | exact Or.inr (Or.inl rfl) | exact Or.inr (Or.inr rfl)))))) pps_nil))) rfl rfl (by simp) (by decide)))))))
def dc : DC := ⟨7919, 40692, 104729, 2147483399, 2147483563, 2147483629⟩
theorem dc_ok : dc.Ok := ⟨by decide, by decide, by decide, by decide⟩
abbrev sDraw : Stmt := top 12
theorem scDraw : FnScope ["_law_deal_here", "_law_many", "_law_number", "_law_one", "_law_other"] ["_law_deal_here", "_law_many"] (defScope sDraw) := ⟨rfl, rfl, rfl, by decide +kernel, rfl, by decide +kernel, by decide +kernel⟩
theorem d_law_draw (B : Blt mg) (T : Top3 K mg "_law_draw" sDraw) : Def3 P w K mg base 1 "_law_draw" ["_law_deal_here", "_law_many"] (spD K IsDeal 1 drawF) := by
 obtain ⟨f, fd, Fu, m⟩ := T.ex
 refine ⟨f, fd, Fu.ok scDraw (spD_len rfl) (fun cdv A outer s H vs Q E hr h => ?_), m, Fu.kp, Fu.binds (fun _ _ _ _ _ _ us hl => len2 hl fun _ _ => rfl)⟩
 obtain ⟨O, ds, ws, Qr, ok, hφ, p, hl, rfl, is, q, kk⟩ := h
 refine ⟨tDealDG K dc, ?_, dealDG_body dc_ok hφ p is q kk⟩
 have nd : (["_law_deal_here", "_law_many", "_law_number", "_law_one", "_law_other"] : List Str).Nodup := by decide +kernel
 exact (pss_cons (ps_while PassesOwn.never (PW.pt (pw_and (pt_cmpR op_eq (pe_dget (hu_of hr) (pe_var (i := 0) rfl (by first | exact Or.inl rfl | exact Or.inr (Or.inl rfl) | exact Or.inr (Or.inr rfl))) pe_str (fun _ _ => rfl)) pe_int (nomark _)) (pw_and1 (pt_cmpR op_gt (pe_callB call_len rfl B.len bt_len (pa_cons (pe_dget (hu_of hr) (pe_var (i := 0) rfl (by first | exact Or.inl rfl | exact Or.inr (Or.inl rfl) | exact Or.inr (Or.inr rfl))) pe_str (fun _ _ => rfl)) pa_nil)) pe_int (nomark _))))) (pss_one (ps_dput (hu_of hr) (pe_var (i := 0) rfl (by first | exact Or.inl rfl | exact Or.inr (Or.inl rfl) | exact Or.inr (Or.inr rfl))) pe_str (pe_bm0 PySem.F.plainAttrs_list PySem.F.slot_list_pop PySem.F.type_list_pop mtr_pop (pe_dget (hu_of hr) (pe_var (i := 0) rfl (by first | exact Or.inl rfl | exact Or.inr (Or.inl rfl) | exact Or.inr (Or.inr rfl))) pe_str (fun _ _ => rfl))) rfl)))
   (pss_cons (ps_set (i := 2) nd rfl (by first | exact Or.inl rfl | exact Or.inr rfl) (pe_dget (hu_of hr) (pe_var (i := 0) rfl (by first | exact Or.inl rfl | exact Or.inr (Or.inl rfl) | exact Or.inr (Or.inr rfl))) pe_str (fun _ _ => rfl)))
   (pss_cons (ps_if (pt_cmpR op_gt (pe_var (i := 2) rfl (by first | exact Or.inl rfl | exact Or.inr (Or.inl rfl) | exact Or.inr (Or.inr rfl))) pe_int (nomark _)) (pss_cons (ps_dput (hu_of hr) (pe_var (i := 0) rfl (by first | exact Or.inl rfl | exact Or.inr (Or.inl rfl) | exact Or.inr (Or.inr rfl))) pe_str (pe_op op_fdiv (pe_var (i := 2) rfl (by first | exact Or.inl rfl | exact Or.inr (Or.inl rfl) | exact Or.inr (Or.inr rfl))) (pe_var (i := 1) rfl (by first | exact Or.inl rfl | exact Or.inr (Or.inl rfl) | exact Or.inr (Or.inr rfl)))) rfl) (pss_one (ps_ret (pe_op op_mod (pe_var (i := 2) rfl (by first | exact Or.inl rfl | exact Or.inr (Or.inl rfl) | exact Or.inr (Or.inr rfl))) (pe_var (i := 1) rfl (by first | exact Or.inl rfl | exact Or.inr (Or.inl rfl) | exact Or.inr (Or.inr rfl))))))) pss_nil)
   (pss_cons (ps_set (i := 3) nd rfl (by first | exact Or.inl rfl | exact Or.inr rfl) (pe_op op_mod (pe_op op_add (pe_op op_mul (pe_dget (hu_of hr) (pe_var (i := 0) rfl (by first | exact Or.inl rfl | exact Or.inr (Or.inl rfl) | exact Or.inr (Or.inr rfl))) pe_str (fun _ _ => rfl)) pe_int) pe_int) pe_int))
   (pss_cons (ps_dput (hu_of hr) (pe_var (i := 0) rfl (by first | exact Or.inl rfl | exact Or.inr (Or.inl rfl) | exact Or.inr (Or.inr rfl))) pe_str (pe_op op_mod (pe_op op_add (pe_op op_mul (pe_var (i := 3) rfl (by first | exact Or.inl rfl | exact Or.inr (Or.inl rfl) | exact Or.inr (Or.inr rfl))) pe_int) pe_int) pe_int) rfl)
   (pss_cons (ps_set (i := 4) nd rfl (by first | exact Or.inl rfl | exact Or.inr rfl) (pe_op op_mod (pe_op op_mul (pe_dget (hu_of hr) (pe_var (i := 0) rfl (by first | exact Or.inl rfl | exact Or.inr (Or.inl rfl) | exact Or.inr (Or.inr rfl))) pe_str (fun _ _ => rfl)) (pe_dget (hu_of hr) (pe_var (i := 0) rfl (by first | exact Or.inl rfl | exact Or.inr (Or.inl rfl) | exact Or.inr (Or.inr rfl))) pe_str (fun _ _ => rfl))) pe_int))
   (pss_one (ps_ret (pe_op op_mod (pe_op op_add (pe_op op_mul (pe_op op_mod (pe_op op_mul (pe_var (i := 3) rfl (by first | exact Or.inl rfl | exact Or.inr (Or.inl rfl) | exact Or.inr (Or.inr rfl))) (pe_var (i := 3) rfl (by first | exact Or.inl rfl | exact Or.inr (Or.inl rfl) | exact Or.inr (Or.inr rfl)))) pe_int) pe_int) (pe_var (i := 4) rfl (by first | exact Or.inl rfl | exact Or.inr (Or.inl rfl) | exact Or.inr (Or.inr rfl)))) (pe_var (i := 1) rfl (by first | exact Or.inl rfl | exact Or.inr (Or.inl rfl) | exact Or.inr (Or.inr rfl))))))))))))
abbrev sLetters : Stmt := top 14
theorem scLetters : FnScope ["_law_deal_here", "_law_left"] ["_law_deal_here"] (defScope sLetters) := ⟨rfl, rfl, rfl, by decide +kernel, rfl, by decide +kernel, by decide +kernel⟩
theorem d_law_letters (B : Blt mg) (d_law_draw : DDraw P w K mg base) (T : Top3 K mg "_law_letters" sLetters) : Def3 P w K mg base 2 "_law_letters" ["_law_deal_here"] (spD K IsDeal 0 letters2F) := by
 obtain ⟨f, fd, Fu, m⟩ := T.ex
 refine ⟨f, fd, Fu.ok scLetters (spD_len rfl) (fun cdv A outer s H vs Q E hr h => ?_), m, Fu.kp, Fu.binds (fun _ _ _ _ _ _ us hl => len1 hl fun _ => rfl)⟩
 obtain ⟨O, ds, ws, Qr, ok, hφ, p, hl, rfl, is, q, kk⟩ := h
 refine ⟨tLetters2 K (spD K IsDeal 1 drawF), ?_, letters2_deal ok hφ p is q kk⟩
 have nd : (["_law_deal_here", "_law_left"] : List Str).Nodup := by decide +kernel
 obtain ⟨fD, fdD, G, mD, kpD, bnD⟩ := d_law_draw.ex
 exact pss_cons (ps_set (i := 1) nd rfl (by first | exact Or.inl rfl | exact Or.inr rfl) (pe_callTy (call_listS rfl) rfl B.list bt_list (pa_cons pe_str pa_nil)))
   (pss_one (ps_ret (pe_callB call_sortS rfl B.sorted bt_sorted (pa_cons
     (pe_comp 1 (N' := ["_law_k", "_law_deal_here", "_law_left"]) (.of rfl (by kernel_rfl)) rfl (pi_range1 rfl B.range (pa_cons (pe_op op_add pe_int (pe_call (k := 1) (by exact G) (by exact hr) rfl mD kpD bnD .nil pass0 (pa_cons (pe_var (i := 0) rfl (by first | exact Or.inl rfl | exact Or.inr (Or.inl rfl) | exact Or.inr (Or.inr rfl))) (pa_cons pe_int pa_nil)))) pa_nil))
       (fun C s H ex => pg_name (of_decide_eq_true (by kernel_rfl)) rfl (by first | exact Or.inl rfl | exact Or.inr rfl) (by first | exact .inl rfl | exact .inr rfl)) (own_name (by decide)) (fun C s H ex => pf_nil)
       (fun C s H ex => pe_bm PySem.F.plainAttrs_list PySem.F.slot_list_pop PySem.F.type_list_pop mtr_popAt (pe_var (i := 2) rfl (by first | exact Or.inl rfl | exact Or.inr (Or.inl rfl) | exact Or.inr (Or.inr rfl)))
         (pa_cons (pe_call (k := 1) (by exact G) (by exact hr) rfl mD kpD bnD .nil pass0 (pa_cons (pe_var (i := 1) rfl (by first | exact Or.inl rfl | exact Or.inr (Or.inl rfl) | exact Or.inr (Or.inr rfl))) (pa_cons (pe_callB call_len rfl B.len bt_len (pa_cons (pe_var (i := 2) rfl (by first | exact Or.inl rfl | exact Or.inr (Or.inl rfl) | exact Or.inr (Or.inr rfl))) pa_nil)) pa_nil))) pa_nil))) pa_nil))))
end
end L50
namespace L3
open PySem PySem.Spec
open PyProof.Rows hiding St
open L2
def tyD : PyData → String
 | .none => "NoneType"
 | .bool _ => "bool"
 | .int _ => "int"
 | .str _ => "str"
 | .list _ => "list"
 | .tuple _ => "tuple"
 | .dict _ => "dict"
def isKind (d : PyData) (T : String) : Option Bool := match T with
 | "int" => some (match d with | .int _ => true | .bool _ => true | _ => false)
 | "bool" => some (match d with | .bool _ => true | _ => false)
 | "str" => some (match d with | .str _ => true | _ => false)
 | "tuple" => some (match d with | .tuple _ => true | _ => false)
 | "list" => some (match d with | .list _ => true | _ => false)
 | _ => none
theorem kit_kind (K : PySem.W.Frag) {d : PyData} {T : String} {b : Bool} (h : isKind d T = some b) (hd : ∀ kvs, d ≠ .dict kvs) : PySem.W.kitOne K (.type (tyD d)) (.type T) = some b := by
 unfold isKind at h
 split at h
 all_goals first
   | (cases h; cases d <;> first | rfl | exact absurd rfl (hd _))
   | cases h
def tIsI (K : PySem.W.Frag) (T : String) (te : TE) : TE := fun σ H Q => te σ H fun v H1 => ∃ F d b, Is K F H1 v d ∧ isKind d T = some b ∧ Q (.bl b) H1
theorem isinst_data {X : Cx} {pins : List (Addr × Obj)} {σ : St} {H : Hp} {s : Shared} {A : Around} {E : Value → Shared → Prop} {Q : Value → Shared → Prop} {x : V} {u : Value} {F : Addr → Prop} {d : PyData} {T : String} {b : Bool} (I : Inv X pins σ H s) (rx : RelV x u) (is : Is X.K F H x d) (e : isKind d T = some b) (h : ∀ tk, Q (.bool b) { s with toks := tk }) :
   wpAny (model X.prog X.w) A (call (.builtin "isinstance") [u, .type T]) Q E s := by
 cases is with
 | none => exact isinst_ok I rx .non (kit_kind _ e fun _ z => nomatch z) h
 | bool y => exact isinst_ok I rx (.bl y) (kit_kind _ e fun _ z => nomatch z) h
 | int i => exact isinst_ok I rx (.int i) (kit_kind _ e fun _ z => nomatch z) h
 | str y => exact isinst_ok I rx (.str y) (kit_kind _ e fun _ z => nomatch z) h
 | list f q r => exact isinst_ok I rx (.lst q) (kit_kind _ e fun _ z => nomatch z) h
 | @tuple a xs ds q r =>
   cases (show u = Value.ref a from rx)
   obtain ⟨its, _, ⟨o, h1, h2, _⟩, _⟩ := I.tuple q
   exact PySem.W.kia_one PySem.W.kitx_tuple I.kIn ⟨o, h1, h2⟩ (kit_kind X.K (d := .tuple ds) e fun _ z => nomatch z) (fun z => nomatch z) h
theorem pe_isI {X : Cx} {e : Expr} {te : TE} {T : String} {x : Str} {p1 p2 p3 : Pos} (gi : Gl X "isinstance") (mi : X.mg "isinstance" = none) (gT : Gl X x) (mT : X.mg x = none) (hT : bootBuiltins x = some (.type T)) (he : PE X e te) (hn : x ≠ "__name__" := by decide) (hdb : (x == ("__debug__" : Str)) = false := by decide)
   (s1 : starEach [e, .Name x p2] X.env = (false, eval e X.env) :: (false, eval (.Name x p2) X.env) :: starEach [] X.env := by rfl) (s2 : starEach [e, .Name x p2] X.env = (false, eval e X.env) :: starEach [.Name x p2] X.env := by rfl) (s3 : (backTo p3 (starEach [.Name x p2] X.env)).any (·.1) = false := by rfl) :
   PE X (.Call (.Name "isinstance" p1) [e, .Name x p2] [] p3) (tIsI X.K T te) := by
 intro pins s σ H Q I h
 refine wpAny_Call_Name_kw (ld_blt I gi mi (u := .builtin "isinstance") (by decide +kernel) ?_)
 refine PyProof.Rows.callWith_builtin1 ?_ s2 s3
 rw [s1]
 show wpAny _ _ (spliced ((false, eval e X.env) :: (false, eval (.Name x p2) X.env) :: [])) _ _ s
 refine Calls.spliced_cons (thn (he pins s σ H _ I h) fun u s' ⟨y, H1, I1, r1, F, d, b, is, ek, q⟩ => ?_)
 refine Calls.spliced_cons (ld_blt I1 gT mT hT (Calls.spliced_nil ?_) hn hdb)
 exact isinst_data I1 r1 is ek fun tk => ⟨.bl b, H1, I1.tok _, rfl, q⟩
def isID (T : String) (f : DE) : DE := fun ρ Q => f ρ fun r => ∃ b, isKind r.d T = some b ∧ Q (.o (.bool b))
theorem ed_isI {K : PySem.W.Frag} {O : Ob} {T : String} {t : TE} {f : DE} (h : ED K O t f) : ED K O (tIsI K T t) (isID T f) := fun σ H ρ Q Qd S hf k => by
 refine h σ H ρ _ _ S hf fun v H1 r s1 o1 ⟨b, e, q⟩ => ?_
 exact ⟨_, r.d, b, o1.is S.ok S.p, e, k _ H1 (.o (.bool b)) s1 (Is.bool b) q⟩
section
variable {ι κ : Type} {P : Program} {w : World} {K : PySem.W.Frag} {mg : Str → Option Value} {base : Heap} {k : Nat} {X : ι → Cx} {O : κ → Ob} {a : Expr} {fa : DE} {pos p p2 : Pos}
theorem e_isI {x : Str} {T : String} (C : Ctx3 P w K mg base k X) (B : Blt mg) (ha : E3 K X O a fa) (hm : mg x = none) (hT : bootBuiltins x = some (.type T) := by decide +kernel) (hg : ∀ i, Gl (X i) "isinstance" := by intro i; rfl) (hg2 : ∀ i, Gl (X i) x := by intro i; rfl) (hn : x ≠ "__name__" := by decide) (hdb : (x == ("__debug__" : Str)) = false := by decide)
   (s1 : ∀ i, starEach [a, .Name x p2] (X i).env = (false, eval a (X i).env) :: (false, eval (.Name x p2) (X i).env) :: starEach [] (X i).env := by intro i; rfl) (s2 : ∀ i, starEach [a, .Name x p2] (X i).env = (false, eval a (X i).env) :: starEach [.Name x p2] (X i).env := by intro i; rfl) (s3 : ∀ i, (backTo pos (starEach [.Name x p2] (X i).env)).any (·.1) = false := by intro i; rfl) :
   E3 K X O (.Call (.Name "isinstance" p) [a, .Name x p2] [] pos) (isID T fa) :=
 let ⟨_, q, d⟩ := ha; ⟨_, fun i => by
   have h := pe_isI (p1 := p) (p3 := pos) (hg i) (by rw [C.hmg]; exact B.isinstance) (hg2 i) (by rw [C.hmg]; exact hm) hT (q i) hn hdb (s1 i) (s2 i) (s3 i)
   rw [C.hK] at h
   exact h, fun j => ed_isI (d j)⟩
end
end L3
namespace L3
open PySem PySem.Spec
open PyProof.Rows hiding St
open L2
theorem bt_enumerate : bootBuiltins "enumerate" = some (.type "enumerate") := by decide +kernel
section
variable {K : PySem.W.Frag} {O : Ob}
def enumD (ds : List PyData) : List PyData := ds.mapIdx fun i d => .tuple [.int (i : Nat), d]
theorem enumD_len (ds : List PyData) : (enumD ds).length = ds.length := by unfold enumD; rw [List.length_mapIdx]
theorem enumD_get {ds : List PyData} {i : Nat} {d : PyData} (h : (enumD ds)[i]? = some d) : ∃ e, ds[i]? = some e ∧ d = .tuple [.int (i : Nat), e] := by
 unfold enumD at h
 rw [List.getElem?_mapIdx] at h
 obtain ⟨e, he, rfl⟩ := Option.map_eq_some_iff.mp h
 exact ⟨e, he, rfl⟩
end
end L3
namespace L3
open PySem PySem.Spec
open PyProof.Rows hiding St
open L2
abbrev tS (w : List Nat) : PyData := .str (tx w)
end L3
namespace L3
open PySem PySem.Spec
open PyProof.Rows hiding St
open L2
mutual
def solid : PyData → Bool
 | .none => true
 | .int _ => true
 | .str _ => true
 | .tuple ds => solids ds
 | _ => false
def solids : List PyData → Bool
 | [] => true
 | d :: ds => solid d && solids ds
end
mutual
theorem eqv_solid : ∀ d e : PyData, solid d = true → solid e = true → (PyData.eqv d e = true ↔ d = e)
 | .none, e, _, h => by cases e <;> simp [PyData.eqv, solid] at *
 | .int i, e, _, h => by cases e <;> simp [PyData.eqv, solid] at *
 | .str x, e, _, h => by cases e <;> simp [PyData.eqv, solid] at *
 | .tuple ds, e, h0, h => by
   cases e with
   | tuple es =>
     have := eqv_solids ds es (by simpa [solid] using h0) (by simpa [solid] using h)
     simp only [PyData.eqv]
     rw [this]
     exact ⟨fun z => by rw [z], fun z => by cases z; rfl⟩
   | none => simp [PyData.eqv]
   | int _ => simp [PyData.eqv]
   | str _ => simp [PyData.eqv]
   | bool _ => simp [solid] at h
   | list _ => simp [solid] at h
   | dict _ => simp [solid] at h
 | .bool _, _, h, _ => by simp [solid] at h
 | .list _, _, h, _ => by simp [solid] at h
 | .dict _, _, h, _ => by simp [solid] at h
theorem eqv_solids : ∀ ds es : List PyData, solids ds = true → solids es = true → (PyData.eqvAll ds es = true ↔ ds = es)
 | [], [], _, _ => by simp [PyData.eqvAll]
 | [], _ :: _, _, _ => by simp [PyData.eqvAll]
 | _ :: _, [], _, _ => by simp [PyData.eqvAll]
 | d :: ds, e :: es, h, h' => by
   simp only [solids, Bool.and_eq_true] at h h'
   simp only [PyData.eqvAll, Bool.and_eq_true]
   rw [eqv_solid d e h.1 h'.1, eqv_solids ds es h.2 h'.2]
   simp
end
structure Nice (n b : Nat) (d : PyData) : Prop where
 lay : d.canLay0 = true
 sh : d.showable = true
 sho : d.leavesShort 13 = true
 dep : d.depth ≤ n
 bul : d.bulk ≤ b
 sol : solid d = true
theorem nice_str {x : Str} {b : Nat} (h : PyData.strOk x = true) (hb : x.length ≤ b) : Nice 0 b (.str x) := ⟨h, by simp [PyData.showable], short_str h, Nat.le_refl _, hb, rfl⟩
theorem nice_txt {v : List Nat} {b : Nat} (h : ∀ c ∈ v, c < 1000) (hb : v.length ≤ b) : Nice 0 b (tS v) := nice_str (by
 rw [strOk_iff]
 intro c hc
 rw [tx_toList] at hc
 have := h c hc
 omega) (by rw [tx_len]; exact hb)
theorem Nice.okD {n b : Nat} {d : PyData} (h : Nice n b d) (hn : n ≤ 60 := by decide) : L3.okD d = true := by
 unfold L3.okD
 rw [h.lay]
 have := h.dep
 simp
 omega
theorem two20 : (2 : Nat) ^ 20 = 1048576 := by decide
theorem Nice.repr {n b : Nat} {d : PyData} (h : Nice n b d) (hn : n ≤ 60 := by decide) (hb : b ≤ 1048576 := by decide) : ∃ x, reprF [d] = some (.o (.str x)) ∧ PyData.strOk x = true :=
 repr_ok h.lay h.sh (Nat.le_trans h.dep hn) h.sho (Nat.le_trans h.bul (by have := two20; omega))
theorem eq_nice {n b n' b' : Nat} {neg : Bool} {d e : PyData} (h : Nice n b d) (h' : Nice n' b' e) (hn : n ≤ 60 := by decide) {q : Bool} (hq : q = true ↔ d = e) : eqF neg d e = some (.o (.bool (if neg then !q else q))) := by
 unfold eqF
 rw [if_pos (by rw [h.okD hn, h'.lay]; rfl)]
 have e1 : PyData.eqv d e = q := by
   have := (eqv_solid d e h.sol h'.sol).trans hq.symm
   cases h1 : PyData.eqv d e <;> cases q <;> simp_all
 rw [e1]
theorem idx_lst {ds : List PyData} {i : Nat} {d : PyData} (h : ds[i]? = some d) : idxF (.list ds) (.int (i : Nat)) = some (.o d) := by
 show (atI ds _).map R.o = _
 rw [atI_nat (v := d) h]
 rfl
theorem idx_tup {ds : List PyData} {i : Nat} {d : PyData} (h : ds[i]? = some d) : idxF (.tuple ds) (.int (i : Nat)) = some (.o d) := by
 show (atI ds _).map R.o = _
 rw [atI_nat (v := d) h]
 rfl
theorem add_lst {a b : List PyData} (h : a.length + b.length ≤ 16777216) : addF (.list a) (.list b) = some (.n (a ++ b)) := by
 show (if a.length + b.length ≤ sizeLine then some (R.n (a ++ b)) else none) = _
 rw [if_pos (by rw [sizeLine_eq]; exact h)]
end L3
namespace L6
structure WO {α : Type} (blt : α → α → Bool) : Prop where
 irr : ∀ a, blt a a = false
 tr : ∀ a b c, blt a b = true → blt b c = true → blt a c = true
 neg : ∀ a b c, blt a c = true → blt a b = true ∨ blt b c = true
section
variable {α : Type} {blt : α → α → Bool} {k : Nat → α}
def Rk (blt : α → α → Bool) (k : Nat → α) (a b : Nat) : Prop := blt (k a) (k b) = true ∨ (blt (k b) (k a) = false ∧ a < b)
theorem Rk.trans (W : WO blt) {a b c : Nat} (h : Rk blt k a b) (h' : Rk blt k b c) : Rk blt k a c := by
 rcases h with h | ⟨h, l⟩ <;> rcases h' with h' | ⟨h', l'⟩
 · exact .inl (W.tr _ _ _ h h')
 · rcases W.neg _ (k c) _ h with z | z
   · exact .inl z
   · rw [h'] at z; cases z
 · rcases W.neg _ (k a) _ h' with z | z
   · rw [h] at z; cases z
   · exact .inl z
 · refine .inr ⟨?_, by omega⟩
   cases e : blt (k c) (k a) with
   | false => rfl
   | true =>
     rcases W.neg _ (k b) _ e with z | z
     · rw [h'] at z; cases z
     · rw [h] at z; cases z
theorem Rk.le (W : WO blt) {a b : Nat} (h : Rk blt k a b) : blt (k b) (k a) = false := by
 rcases h with h | ⟨h, _⟩
 · cases e : blt (k b) (k a) with
   | false => rfl
   | true => have := W.tr _ _ _ h e; rw [W.irr] at this; cases this
 · exact h
theorem lt_of_le (W : WO blt) {x y z : α} (h : blt x y = true) (h' : blt z y = false) : blt x z = true := by
 rcases W.neg _ z _ h with e | e
 · exact e
 · rw [h'] at e; cases e
theorem le_lt (W : WO blt) {x y z : α} (h : blt y x = false) (h' : blt y z = true) : blt x z = true := by
 rcases W.neg _ x _ h' with e | e
 · rw [h] at e; cases e
 · exact e
theorem le_le (W : WO blt) {x y z : α} (h : blt y x = false) (h' : blt z y = false) : blt z x = false := by
 cases e : blt z x with
 | false => rfl
 | true =>
   rcases W.neg _ y _ e with q | q
   · rw [h'] at q; cases q
   · rw [h] at q; cases q
def Up (blt : α → α → Bool) (k : Nat → α) (ix : Nat → Nat) (m : Nat) : Prop := ∀ i j, i < j → j < m → Rk blt k (ix i) (ix j)
def Dn (blt : α → α → Bool) (k : Nat → α) (ix : Nat → Nat) (m : Nat) : Prop := ∀ i j, i < j → j < m → Rk blt k (ix j) (ix i)
structure Pre (ix : Nat → Nat) (m : Nat) : Prop where
 lt : ∀ i, i < m → ix i < m
 id : ∀ i, m ≤ i → ix i = i
theorem Pre.more {ix : Nat → Nat} {m n : Nat} (h : Pre ix m) (hm : m ≤ n) : Pre ix n :=
 ⟨fun i hi => by
   by_cases z : i < m
   · have := h.lt i z; omega
   · rw [h.id i (by omega)]; exact hi, fun i hi => h.id i (by omega)⟩
theorem Pre.idf : Pre (fun i => i) m := ⟨fun _ h => h, fun _ _ => rfl⟩
def mixF (ix : Nat → Nat) (i j : Nat) : Nat → Nat := fun p => if i ≤ p ∧ p < j then ix (i + j - 1 - p) else ix p
def bubF (ix : Nat → Nat) (s l : Nat) : Nat → Nat := fun p => if p = l then ix s else if l < p ∧ p ≤ s then ix (p - 1) else ix p
theorem Pre.mix {ix : Nat → Nat} {m i j : Nat} (h : Pre ix m) (hj : j ≤ m) : Pre (mixF ix i j) m := by
 refine ⟨fun p hp => ?_, fun p hp => ?_⟩
 · unfold mixF
   split
   · exact h.lt _ (by omega)
   · exact h.lt _ hp
 · unfold mixF
   rw [if_neg (by omega)]
   exact h.id p hp
theorem Pre.bub {ix : Nat → Nat} {s l : Nat} (h : Pre ix s) (hl : l ≤ s) : Pre (bubF ix s l) (s + 1) := by
 refine ⟨fun p hp => ?_, fun p hp => ?_⟩
 · unfold bubF
   split
   · rw [h.id s (Nat.le_refl _)]; omega
   · split
     · have := h.lt (p - 1) (by omega); omega
     · have := h.lt p (by omega); omega
 · unfold bubF
   rw [if_neg (by omega), if_neg (by omega)]
   exact h.id p (by omega)
theorem up_one {ix : Nat → Nat} (W : WO blt) {m : Nat} (h : Up blt k ix m) (hm : 0 < m) (n : Rk blt k (ix (m - 1)) (ix m)) : Up blt k ix (m + 1) := fun i j hij hj => by
 by_cases e : j < m
 · exact h i j hij e
 · have : j = m := by omega
   subst this
   by_cases e2 : i = j - 1
   · subst e2; exact n
   · exact (h i (j - 1) (by omega) (by omega)).trans W n
theorem up_mix {ix : Nat → Nat} {m : Nat} (h : Dn blt k ix m) : Up blt k (mixF ix 0 m) m := fun i j hij hj => by
 unfold mixF
 rw [if_pos (by omega), if_pos (by omega)]
 exact h _ _ (by omega) (by omega)
theorem up_bub {ix : Nat → Nat} {s l : Nat} (h : Up blt k ix s) (p : Pre ix s) (hl : l ≤ s) (lo : ∀ i, i < l → blt (k s) (k (ix i)) = false) (hi : ∀ i, l ≤ i → i < s → blt (k s) (k (ix i)) = true) : Up blt k (bubF ix s l) (s + 1) := by
 have es := p.id s (Nat.le_refl _)
 intro i j hij hj
 unfold bubF
 by_cases a : i = l
 · rw [if_pos a, if_neg (by omega), if_pos (by omega), es]
   exact .inl (hi _ (by omega) (by omega))
 · rw [if_neg a]
   by_cases b : l < i ∧ i ≤ s
   · rw [if_pos b, if_neg (by omega), if_pos (by omega)]
     exact h _ _ (by omega) (by omega)
   · rw [if_neg b]
     by_cases c : j = l
     · rw [if_pos c, es]
       exact .inr ⟨lo i (by omega), p.lt i (by omega)⟩
     · rw [if_neg c]
       by_cases d : l < j ∧ j ≤ s
       · rw [if_pos d]
         exact h _ _ (by omega) (by omega)
       · rw [if_neg d]
         exact h _ _ (by omega) (by omega)
structure Des (blt : α → α → Bool) (k : Nat → α) (ix : Nat → Nat) (m q : Nat) : Prop where
 le : q + 1 ≤ m
 up : ∀ i j, i < j → j < m → i + (q + 1) < m → Rk blt k (ix j) (ix i)
 far : ∀ i j, i + (q + 1) < m → m ≤ j + (q + 1) → j < m → blt (k (ix j)) (k (ix i)) = true
 al : ∀ i j, m ≤ i + (q + 1) → i < j → j < m → blt (k (ix i)) (k (ix j)) = false ∧ blt (k (ix j)) (k (ix i)) = false ∧ ix i < ix j
theorem Des.turn {ix : Nat → Nat} {m q : Nat} (h : Des blt k ix m q) : Dn blt k (mixF ix (m - (q + 1)) m) m := by
 intro i j hij hj
 have := h.le
 unfold mixF
 by_cases a : m - (q + 1) ≤ i ∧ i < m
 · rw [if_pos a, if_pos (by omega)]
   obtain ⟨h1, h2, h3⟩ := h.al (m - (q + 1) + m - 1 - j) (m - (q + 1) + m - 1 - i) (by omega) (by omega) (by omega)
   exact .inr ⟨h2, h3⟩
 · rw [if_neg a]
   by_cases b : m - (q + 1) ≤ j ∧ j < m
   · rw [if_pos b]
     exact h.up _ _ (by omega) (by omega) (by omega)
   · rw [if_neg b]
     exact h.up _ _ hij hj (by omega)
theorem Des.dn {ix : Nat → Nat} {m : Nat} (h : Des blt k ix m 0) : Dn blt k ix m := fun i j hij hj => h.up i j hij hj (by omega)
theorem des_one {ix : Nat → Nat} (W : WO blt) {m : Nat} (h : Dn blt k ix m) (hm : 0 < m) (n : blt (k (ix m)) (k (ix (m - 1))) = true) : Des blt k ix (m + 1) 0 := by
 have hb : ∀ i, i < m → blt (k (ix m)) (k (ix i)) = true := fun i hi => by
   by_cases e : i = m - 1
   · subst e; exact n
   · exact lt_of_le W n ((h i (m - 1) (by omega) (by omega)).le W)
 refine ⟨by omega, fun i j hij hj _ => ?_, fun i j h1 h2 h3 => ?_, fun i j h1 h2 h3 => by omega⟩
 · by_cases e : j < m
   · exact h i j hij e
   · have : j = m := by omega
     subst this
     exact .inl (hb i hij)
 · have : j = m := by omega
   subst this
   exact hb i (by omega)
theorem des_al {ix : Nat → Nat} (W : WO blt) {m q : Nat} (h : Des blt k ix m q) (p : Pre ix m) (n1 : blt (k (ix m)) (k (ix (m - 1))) = false) (n2 : blt (k (ix (m - 1))) (k (ix m)) = false) : Des blt k ix (m + 1) (q + 1) := by
 have hl := h.le
 have em := p.id m (Nat.le_refl _)
 have key : ∀ i, m ≤ i + (q + 1) → i < m → blt (k (ix i)) (k (ix m)) = false ∧ blt (k (ix m)) (k (ix i)) = false := fun i h1 h2 => by
   by_cases e : i = m - 1
   · subst e; exact ⟨n2, n1⟩
   · obtain ⟨a, b, _⟩ := h.al i (m - 1) h1 (by omega) (by omega)
     exact ⟨le_le W n2 a, le_le W b n1⟩
 refine ⟨by omega, fun i j hij hj hi => ?_, fun i j h1 h2 h3 => ?_, fun i j h1 h2 h3 => ?_⟩
 · by_cases e : j < m
   · exact h.up i j hij e (by omega)
   · have : j = m := by omega
     subst this
     exact .inl (le_lt W n2 (h.far i (j - 1) (by omega) (by omega) (by omega)))
 · by_cases e : j < m
   · exact h.far i j (by omega) (by omega) e
   · have : j = m := by omega
     subst this
     exact le_lt W n2 (h.far i (j - 1) (by omega) (by omega) (by omega))
 · by_cases e : j < m
   · exact h.al i j (by omega) h2 e
   · have : j = m := by omega
     subst this
     obtain ⟨a, b⟩ := key i (by omega) h2
     refine ⟨a, b, ?_⟩
     rw [em]
     exact p.lt i h2
structure Bij (ix : Nat → Nat) (n : Nat) : Prop where
 lt : ∀ i, i < n → ix i < n
 inj : ∀ i j, i < n → j < n → ix i = ix j → i = j
 sur : ∀ p, p < n → ∃ i, i < n ∧ ix i = p
theorem Bij.idf {n : Nat} : Bij (fun i => i) n := ⟨fun _ h => h, fun _ _ _ _ e => e, fun p h => ⟨p, h, rfl⟩⟩
theorem Bij.comp {ix f : Nat → Nat} {n : Nat} (h : Bij ix n) (g : Bij f n) : Bij (fun p => ix (f p)) n :=
 ⟨fun i hi => h.lt _ (g.lt i hi), fun i j hi hj e => g.inj i j hi hj (h.inj _ _ (g.lt i hi) (g.lt j hj) e), fun p hp => by
   obtain ⟨i, hi, e⟩ := h.sur p hp
   obtain ⟨j, hj, e'⟩ := g.sur i hi
   exact ⟨j, hj, by rw [e', e]⟩⟩
theorem Bij.of {f g : Nat → Nat} {n : Nat} (a : ∀ i, i < n → f i < n) (b : ∀ i, i < n → g i < n) (c : ∀ i, i < n → g (f i) = i) (d : ∀ i, i < n → f (g i) = i) : Bij f n :=
 ⟨a, fun i j hi hj e => by rw [← c i hi, e, c j hj], fun p hp => ⟨g p, b p hp, d p hp⟩⟩
def swF (i j p : Nat) : Nat := if i ≤ p ∧ p < j then i + j - 1 - p else p
def bbF (s l p : Nat) : Nat := if p = l then s else if l < p ∧ p ≤ s then p - 1 else p
def bbG (s l p : Nat) : Nat := if p = s then l else if l ≤ p ∧ p < s then p + 1 else p
theorem swF_lt {i j n p : Nat} (hj : j ≤ n) (hp : p < n) : swF i j p < n := by unfold swF; split <;> omega
theorem swF_sw (i j p : Nat) : swF i j (swF i j p) = p := by
 unfold swF
 by_cases a : i ≤ p ∧ p < j
 · rw [if_pos a, if_pos (by omega)]; omega
 · rw [if_neg a, if_neg a]
theorem Bij.mix {ix : Nat → Nat} {n i j : Nat} (h : Bij ix n) (hj : j ≤ n) : Bij (mixF ix i j) n := by
 have e : mixF ix i j = fun p => ix (swF i j p) := by
   funext p
   unfold mixF swF
   split <;> rfl
 rw [e]
 exact h.comp (.of (g := swF i j) (fun p hp => swF_lt hj hp) (fun p hp => swF_lt hj hp) (fun p _ => swF_sw i j p) fun p _ => swF_sw i j p)
theorem Bij.bub {ix : Nat → Nat} {n s l : Nat} (h : Bij ix n) (hs : s < n) (hl : l ≤ s) : Bij (bubF ix s l) n := by
 have e : bubF ix s l = fun p => ix (bbF s l p) := by
   funext p
   unfold bubF bbF
   split
   · rfl
   · split <;> rfl
 rw [e]
 refine h.comp (.of (g := bbG s l) (fun p hp => ?_) (fun p hp => ?_) (fun p hp => ?_) fun p hp => ?_)
 · unfold bbF; repeat' split
   all_goals omega
 · unfold bbG; repeat' split
   all_goals omega
 · unfold bbF bbG; repeat' split
   all_goals omega
 · unfold bbF bbG; repeat' split
   all_goals omega
end
end L6
namespace L6
open PySem PyProof.Rows
section
variable {prog : Program} {w : World} {A : Around} {E : Value → Shared → Prop} {s : Shared} {α : Type} {blt : α → α → Bool} {k : Nat → α} {a₀ : Array Keyed} {kd : SortKind} {ix : Nat → Nat} {st : SortSt}
def CmpOk (prog : Program) (w : World) (A : Around) (s : Shared) (kd : SortKind) (a₀ : Array Keyed) (blt : α → α → Bool) (k : Nat → α) : Prop :=
 ∀ (i j : Nat) (x p y q : Value) (E : Value → Shared → Prop) (Q : Bool → Shared → Prop), a₀[i]? = some (x, p) → a₀[j]? = some (y, q) → Q (blt (k i) (k j)) s → wpAny (model prog w) A (keyLt' kd x y) Q E s
structure Sb (a₀ : Array Keyed) (kd : SortKind) (ix : Nat → Nat) (st : SortSt) : Prop where
 sz : (arrOf st).size = a₀.size
 at_ : ∀ i, i < a₀.size → (arrOf st)[i]? = a₀[ix i]?
 bj : Bij ix a₀.size
 fa : failedOf st = none
 pe : pendingOf st = #[]
 ki : kindOf st = kd
theorem lt_at {i j : Nat} {Q : Option Bool → SortSt → Prop} (hC : CmpOk prog w A s kd a₀ blt k) (b : Sb a₀ kd ix st) (hi : i < a₀.size) (hj : j < a₀.size) (h : Q (some (blt (k (ix i)) (k (ix j)))) st) : wpS (model prog w) A E s (ltAt' i j) Q st := by
 obtain ⟨⟨x, p⟩, gi⟩ : ∃ z, a₀[ix i]? = some z := ⟨_, Array.getElem?_eq_getElem (b.bj.lt i hi)⟩
 obtain ⟨⟨y, q⟩, gj⟩ : ∃ z, a₀[ix j]? = some z := ⟨_, Array.getElem?_eq_getElem (b.bj.lt j hj)⟩
 rw [ltAt'_eq]
 refine wpS_bind (wpS_get ?_)
 change wpS (model prog w) A E s (elem' (arrOf st) i >>= fun x => elem' (arrOf st) j >>= fun y => lt' x y) Q st
 rw [elem'_eq, elem'_eq, b.at_ i hi, b.at_ j hj, gi, gj]
 refine wpS_bind (wpS_pure (wpS_bind (wpS_pure ?_)))
 rw [lt'_eq]
 refine wpS_bind (wpS_get ?_)
 rw [b.ki]
 refine wpS_bind (wpS_lift (wpAny_attempt (hC _ _ _ _ _ _ _ _ gi gj ⟨rfl, ?_⟩)))
 exact wpS_pure h
theorem Sb.mix {i j : Nat} (b : Sb a₀ kd ix st) (hj : j ≤ a₀.size) : Sb a₀ kd (mixF ix i j) (setArr st (mirror (arrOf st) i j ((j - i) / 2))) := by
 refine ⟨(mirror_size _ _ _ _).trans b.sz, fun p hp => ?_, b.bj.mix hj, b.fa, b.pe, b.ki⟩
 show (mirror (arrOf st) i j ((j - i) / 2))[p]? = _
 rw [getElem?_mirror_all (by rw [b.sz]; exact hj)]
 unfold mixF
 split
 · exact b.at_ _ (by omega)
 · exact b.at_ _ hp
theorem Sb.bub {q l : Nat} (b : Sb a₀ kd ix st) (hq : q < a₀.size) (hl : l ≤ q) : Sb a₀ kd (bubF ix q l) (setArr st (bubble (arrOf st) q (q - l))) := by
 refine ⟨(bubble_size _ _ _).trans b.sz, fun p hp => ?_, b.bj.bub hq hl, b.fa, b.pe, b.ki⟩
 show (bubble (arrOf st) q (q - l))[p]? = _
 rw [getElem?_bubble (by rw [b.sz]; exact hq) _ (by omega), show q - (q - l) = l by omega]
 unfold bubF
 split
 · exact b.at_ _ hq
 · split
   · exact b.at_ _ (by omega)
   · exact b.at_ _ hp
theorem bin_st {n ok : Nat} {Q : Bool → SortSt → Prop} (W : WO blt) (hC : CmpOk prog w A s kd a₀ blt k) (hn : n ≤ a₀.size) (hok : ok ≤ n) (h1 : 1 ≤ ok) (b : Sb a₀ kd ix st) (up : Up blt k ix ok) (pr : Pre ix ok)
   (h : ∀ ix' st', Sb a₀ kd ix' st' → Up blt k ix' n → Q true st') : wpS (model prog w) A E s (binarySort' 0 n ok) Q st := by
 rw [binarySort'_eq]
 simp only [Nat.zero_add]
 rw [show max ok 1 = ok by omega]
 refine wpS_bind (wpS_mono (wpS_forRange (I := fun q c st' => c = (none, ()) ∧ ∃ ix', Sb a₀ kd ix' st' ∧ Up blt k ix' q ∧ Pre ix' q) (Q := fun c st' => c = (none, ()) ∧ ∃ ix', Sb a₀ kd ix' st' ∧ Up blt k ix' n) ?turn ?out ⟨rfl, ix, b, up, pr⟩) ?rest)
 case rest =>
   rintro c st' ⟨rfl, ix', b', u'⟩
   exact wpS_pure (h ix' st' b' u')
 case out =>
   rintro c st' ⟨hc, ix', b', u', _⟩
   rw [show max ok n = n by omega] at u'
   exact ⟨hc, ix', b', u'⟩
 case turn =>
   rintro q c st' hq1 hq2 ⟨rfl, ix', b', u', p'⟩
   have hq : q < a₀.size := by omega
   have eq := p'.id q (Nat.le_refl _)
   refine wpS_bind (wpS_mono (wpS_forRange (I := fun x c st2 => st2 = st' ∧ ∃ l r, c = (none, l, r) ∧ l ≤ r ∧ r ≤ q ∧ r - l ≤ q - x ∧ (∀ i, i < l → blt (k q) (k (ix' i)) = false) ∧ ∀ i, r ≤ i → i < q → blt (k q) (k (ix' i)) = true)
     (Q := fun c st2 => st2 = st' ∧ ∃ l r, c = (none, l, r) ∧ l ≤ q ∧ (∀ i, i < l → blt (k q) (k (ix' i)) = false) ∧ ∀ i, l ≤ i → i < q → blt (k q) (k (ix' i)) = true) ?tu ?ou ?bg) ?re)
   case bg => exact ⟨rfl, 0, q, rfl, by omega, Nat.le_refl _, by omega, fun i z => absurd z (by omega), fun i z z' => absurd z (by omega)⟩
   case ou =>
     rintro c st2 ⟨rfl, l, r, rfl, z1, z2, z3, z4, z5⟩
     have : l = r := by omega
     subst this
     exact ⟨rfl, l, l, rfl, z2, z4, z5⟩
   case tu =>
     rintro x c st2 _ hx ⟨rfl, l, r, rfl, z1, z2, z3, z4, z5⟩
     dsimp only
     by_cases ge : l ≥ r
     · rw [if_pos ge]
       have : l = r := by omega
       subst this
       exact wpS_pure ⟨rfl, l, l, rfl, z2, z4, z5⟩
     · rw [if_neg ge]
       refine wpS_bind (lt_at hC b' hq (j := (l + r) / 2) (by omega) ?_)
       rw [eq]
       cases le : blt (k q) (k (ix' ((l + r) / 2))) with
       | true =>
         simp only [if_true]
         refine wpS_pure ⟨rfl, l, (l + r) / 2, rfl, by omega, by omega, by omega, z4, fun i y1 y2 => ?_⟩
         by_cases e : i = (l + r) / 2
         · subst e; exact le
         · exact lt_of_le W le ((u' _ _ (show (l + r) / 2 < i by omega) y2).le W)
       | false =>
         simp only [Bool.false_eq_true, if_false]
         refine wpS_pure ⟨rfl, (l + r) / 2 + 1, r, rfl, by omega, by omega, by omega, fun i y1 => ?_, z5⟩
         by_cases e : i = (l + r) / 2
         · subst e; exact le
         · exact le_le W ((u' i _ (show i < (l + r) / 2 by omega) (by omega)).le W) le
   case re =>
     rintro c st2 ⟨rfl, l, r, rfl, z2, z4, z5⟩
     change wpS (model prog w) A E s (moveDown' q l >>= fun _ => pure (ForInStep.yield (none, ()))) _ st2
     rw [moveDown'_eq]
     exact wpS_bind (wpS_modify (wpS_pure ⟨rfl, bubF ix' q l, b'.bub hq z2, up_bub u' p' z2 z4 z5, p'.bub z2⟩))
theorem asc_st {a n : Nat} {Q : AscSt → SortSt → Prop} (W : WO blt) (hC : CmpOk prog w A s kd a₀ blt k) (hn : n ≤ a₀.size) (ha : 1 ≤ a) (han : a ≤ n) (b : Sb a₀ kd ix st) (up : Up blt k ix a) (pr : Pre ix a)
   (h : ∀ m, a ≤ m → m ≤ n → Up blt k ix m → (m = n ∨ blt (k (ix m)) (k (ix (m - 1))) = true) → Q (none, m) st) : wpS (model prog w) A E s (ascLoop a n) Q st := by
 unfold ascLoop
 refine wpS_forRange (I := fun x c st' => st' = st ∧ c = (none, x) ∧ Up blt k ix x) ?turn ?out ⟨rfl, rfl, up⟩
 case out =>
   rintro c st' ⟨rfl, rfl, u⟩
   rw [show max a n = n by omega] at u ⊢
   exact h n han (Nat.le_refl _) u (.inl rfl)
 case turn =>
   rintro x c st' h1 h2 ⟨rfl, rfl, u⟩
   dsimp only
   refine wpS_bind (lt_at hC b (by omega) (by omega) ?_)
   cases le : blt (k (ix x)) (k (ix (x - 1))) with
   | true =>
     simp only [if_true]
     exact wpS_pure (h x h1 (by omega) u (.inr le))
   | false =>
     simp only [Bool.false_eq_true, if_false]
     refine wpS_pure ⟨rfl, rfl, up_one W u (by omega) (.inr ⟨le, ?_⟩)⟩
     rw [(pr.more h1).id x (Nat.le_refl _)]
     exact (pr.more h1).lt _ (by omega)
theorem tail_st {m n : Nat} {Q : Option Nat → SortSt → Prop} (W : WO blt) (hC : CmpOk prog w A s kd a₀ blt k) (hn : n ≤ a₀.size) (h1 : 1 ≤ m) (hm : m ≤ n) (b : Sb a₀ kd ix st) (dn : Dn blt k ix m) (pr : Pre ix m)
   (h : ∀ m' ix' st', Sb a₀ kd ix' st' → 1 ≤ m' → m' ≤ n → Up blt k ix' m' → Pre ix' m' → Q (some m') st') : wpS (model prog w) A E s (tail3 m n) Q st := by
 unfold tail3
 refine wpS_bind (wpS_reverse ?_)
 have b' := b.mix (i := 0) (j := m) (by omega)
 have p' := pr.mix (i := 0) (Nat.le_refl m)
 exact wpS_bind (asc_st W hC hn h1 hm b' (up_mix dn) p' fun m' z1 z2 u _ => wpS_pure (h m' _ _ b' (by omega) z2 u (p'.more z1)))
theorem desc_st {m n : Nat} {Q : DescSt → SortSt → Prop} (W : WO blt) (hC : CmpOk prog w A s kd a₀ blt k) (hn : n ≤ a₀.size) (hm : m ≤ n) (b : Sb a₀ kd ix st) (de : Des blt k ix m 0) (pr : Pre ix m)
   (h : ∀ m' q ix' st', Sb a₀ kd ix' st' → m ≤ m' → m' ≤ n → Des blt k ix' m' q → Pre ix' m' → Q (none, m', q) st') : wpS (model prog w) A E s (descLoop m n) Q st := by
 unfold descLoop
 refine wpS_forRange (I := fun x c st' => ∃ q ix', c = (none, x, q) ∧ Sb a₀ kd ix' st' ∧ Des blt k ix' x q ∧ Pre ix' x) ?turn ?out ⟨0, ix, rfl, b, de, pr⟩
 case out =>
   rintro c st' ⟨q, ix', rfl, b', d', p'⟩
   rw [show max m n = n by omega] at d' p' ⊢
   exact h n q ix' st' b' hm (Nat.le_refl _) d' p'
 case turn =>
   rintro x c st' h1 h2 ⟨q, ix', rfl, b', d', p'⟩
   dsimp only
   have hq := d'.le
   refine wpS_bind (lt_at hC b' (by omega) (by omega) ?_)
   cases le : blt (k (ix' x)) (k (ix' (x - 1))) with
   | true =>
     simp only [if_true]
     by_cases z : q > 0
     · rw [if_pos z]
       refine wpS_bind (wpS_reverse (wpS_pure ⟨0, _, rfl, b'.mix (by omega), ?_, (p'.mix (Nat.le_refl _)).more (by omega)⟩))
       refine des_one W d'.turn (by omega) ?_
       have e1 : mixF ix' (x - (q + 1)) x x = ix' x := by unfold mixF; rw [if_neg (by omega)]
       have e2 : mixF ix' (x - (q + 1)) x (x - 1) = ix' (x - (q + 1)) := by unfold mixF; rw [if_pos (by omega)]; congr 1; omega
       rw [e1, e2]
       have := d'.al (x - (q + 1)) (x - 1) (by omega) (by omega) (by omega)
       exact lt_of_le W le this.1
     · rw [if_neg z]
       have : q = 0 := by omega
       subst this
       exact wpS_pure ⟨0, ix', rfl, b', des_one W d'.dn (by omega) le, p'.more (by omega)⟩
   | false =>
     simp only [Bool.false_eq_true, if_false]
     refine wpS_bind (lt_at hC b' (by omega) (by omega) ?_)
     cases gr : blt (k (ix' (x - 1))) (k (ix' x)) with
     | true =>
       simp only [if_true]
       exact wpS_pure (h x q ix' st' b' h1 (by omega) d' p')
     | false =>
       simp only [Bool.false_eq_true, if_false]
       exact wpS_pure ⟨q + 1, ix', rfl, b', des_al W d' p' le gr, p'.more (by omega)⟩
theorem part_st {m n : Nat} {Q : Option Nat → SortSt → Prop} (W : WO blt) (hC : CmpOk prog w A s kd a₀ blt k) (hn : n ≤ a₀.size) (hm : m + 1 ≤ n) (b : Sb a₀ kd ix st) (de : Des blt k ix (m + 1) 0) (pr : Pre ix (m + 1))
   (h : ∀ m' ix' st', Sb a₀ kd ix' st' → 1 ≤ m' → m' ≤ n → Up blt k ix' m' → Pre ix' m' → Q (some m') st') : wpS (model prog w) A E s (descPart m n) Q st := by
 unfold descPart
 refine wpS_bind (wpS_lift (wpAny_rule ⟨rfl, ?_⟩))
 refine wpS_bind (desc_st W hC hn hm b de pr fun m' q ix' st' b' z1 z2 d' p' => ?_)
 dsimp only
 by_cases z : q > 0
 · rw [if_pos z]
   exact wpS_bind (wpS_reverse (tail_st W hC hn (by omega) z2 (b'.mix (by omega)) d'.turn (p'.mix (Nat.le_refl _)) h))
 · rw [if_neg z]
   have : q = 0 := by omega
   subst this
   exact tail_st W hC hn (by omega) z2 b' d'.dn p' h
theorem run_st {n : Nat} {Q : Option Nat → SortSt → Prop} (W : WO blt) (hC : CmpOk prog w A s kd a₀ blt k) (hn : n ≤ a₀.size) (h1 : 1 ≤ n) (b : Sb a₀ kd (fun i => i) st)
   (h : ∀ m' ix' st', Sb a₀ kd ix' st' → 1 ≤ m' → m' ≤ n → Up blt k ix' m' → Pre ix' m' → Q (some m') st') : wpS (model prog w) A E s (countRun' 0 n) Q st := by
 rw [countRun0_eq]
 refine wpS_bind (asc_st W hC hn (Nat.le_refl 1) h1 b (fun i j z z' => absurd z (by omega)) Pre.idf fun m z1 z2 u o => ?_)
 dsimp only
 by_cases e : m = n
 · rw [if_pos (by simpa using e)]
   exact wpS_pure (h m _ st b z1 z2 u Pre.idf)
 · rw [if_neg (by simpa using e)]
   have lt := o.resolve_left e
   by_cases g : m > 1
   · rw [if_pos g]
     refine wpS_bind (lt_at hC b (i := 0) (j := m - 1) (by omega) (by omega) ?_)
     cases ro : blt (k 0) (k (m - 1)) with
     | true =>
       simp only [if_true]
       exact wpS_pure (h m _ st b z1 z2 u Pre.idf)
     | false =>
       simp only [Bool.false_eq_true, if_false]
       refine wpS_bind (wpS_reverse (part_st W hC hn (by omega) (b.mix (by omega)) ?_ ((Pre.idf.mix (Nat.le_refl m)).more (by omega)) h))
       have al : ∀ i j, i < j → j < m → blt (k j) (k i) = false ∧ blt (k i) (k j) = false := fun i j y1 y2 => by
         refine ⟨(u i j y1 y2).le W, ?_⟩
         have a1 : blt (k i) (k 0) = false := by
           by_cases q : i = 0
           · subst q; exact W.irr _
           · exact (u 0 i (by omega) (by omega)).le W
         have a2 : blt (k (m - 1)) (k j) = false := by
           by_cases q : j = m - 1
           · subst q; exact W.irr _
           · exact (u j (m - 1) (by omega) (by omega)).le W
         exact le_le W (le_le W a2 ro) a1
       refine des_one W (fun i j y1 y2 => ?_) (by omega) ?_
       · have e1 : mixF (fun i => i) 0 m i = m - 1 - i := by unfold mixF; rw [if_pos (by omega)]; show 0 + m - 1 - i = m - 1 - i; omega
         have e2 : mixF (fun i => i) 0 m j = m - 1 - j := by unfold mixF; rw [if_pos (by omega)]; show 0 + m - 1 - j = m - 1 - j; omega
         rw [e1, e2]
         exact .inr ⟨(al _ _ (by omega) (by omega)).1, by omega⟩
       · have e1 : mixF (fun i => i) 0 m m = m := by unfold mixF; rw [if_neg (by omega)]
         have e2 : mixF (fun i => i) 0 m (m - 1) = 0 := by unfold mixF; rw [if_pos (by omega)]; show 0 + m - 1 - (m - 1) = 0; omega
         rw [e1, e2]
         exact lt_of_le W lt ro
   · rw [if_neg g]
     have : m = 1 := by omega
     subst this
     refine part_st W hC hn (by omega) b (des_one W (fun i j y1 y2 => absurd y1 (by omega)) (by omega) lt) Pre.idf h
theorem runs_st {Q : Unit → SortSt → Prop} (W : WO blt) (hC : CmpOk prog w A s kd a₀ blt k) (b : Sb a₀ kd (fun i => i) st) (h2 : 2 ≤ a₀.size) (h64 : a₀.size < 64)
   (h : ∀ ix' st', (arrOf st').size = a₀.size → (∀ i, i < a₀.size → (arrOf st')[i]? = a₀[ix' i]?) → Bij ix' a₀.size → failedOf st' = none → Up blt k ix' a₀.size → Q () st') : wpS (model prog w) A E s sortRuns' Q st := by
 rw [sortRuns'_eq]
 refine wpS_bind (wpS_get ?_)
 dsimp only
 have mr : minRun' a₀.size a₀.size 0 = a₀.size := by
   have key : ∀ f n : Nat, n < 64 → minRun' (f + 1) n 0 = n := fun f n hn => by rw [minRun'_succ, if_pos hn]; rfl
   have := key (a₀.size - 1) a₀.size h64
   rwa [show a₀.size - 1 + 1 = a₀.size by omega] at this
 simp only [b.sz, mr]
 let Fin' : SortSt → Prop := fun st' => ∃ ix', (arrOf st').size = a₀.size ∧ (∀ i, i < a₀.size → (arrOf st')[i]? = a₀[ix' i]?) ∧ Bij ix' a₀.size ∧ failedOf st' = none ∧ pendingOf st' = #[(0, a₀.size, 0)] ∧ Up blt k ix' a₀.size
 have fin : ∀ ix' st', Sb a₀ kd ix' st' → Up blt k ix' a₀.size → Fin' (setPending st' ((pendingOf st').push (0, a₀.size, 0))) := fun ix' st' b' u' =>
   ⟨ix', b'.sz, b'.at_, b'.bj, b'.fa, by show (pendingOf st').push _ = _; rw [b'.pe]; rfl, u'⟩
 refine wpS_bind (wpS_mono (wpS_forRange (I := fun x c st' => (x = 0 ∧ c = (none, 0) ∧ Sb a₀ kd (fun i => i) st') ∨ (1 ≤ x ∧ c = (none, a₀.size) ∧ Fin' st')) (Q := fun c st' => c = (none, a₀.size) ∧ Fin' st') ?turn ?out (.inl ⟨rfl, rfl, b⟩)) ?rest)
 case out =>
   rintro c st' (⟨z, _, _⟩ | ⟨_, z, f⟩)
   · omega
   · exact ⟨z, f⟩
 case turn =>
   rintro x c st' _ hx (⟨rfl, rfl, b'⟩ | ⟨_, rfl, f⟩)
   · dsimp only
     rw [if_neg (by omega)]
     simp only [Nat.sub_zero, Nat.min_self, Nat.zero_add]
     refine wpS_bind (run_st W hC (Nat.le_refl _) (by omega) b' fun m ix2 st2 b2 z1 z2 u2 p2 => ?_)
     dsimp only
     by_cases lt : m < a₀.size
     · rw [if_pos lt]
       refine wpS_bind (wpS_lift (wpAny_rule ⟨rfl, ?_⟩))
       refine wpS_bind (bin_st W hC (Nat.le_refl _) z2 z1 b2 u2 p2 fun ix3 st3 b3 u3 => ?_)
       simp only [Bool.not_true, Bool.false_eq_true, if_false]
       refine wpS_bind (wpS_get ?_)
       rw [show (pendingOf st3).back? = none by rw [b3.pe]; rfl]
       dsimp only
       exact wpS_bind (wpS_modify (wpS_pure (.inr ⟨by omega, rfl, fin ix3 st3 b3 u3⟩)))
     · rw [if_neg lt]
       have : m = a₀.size := by omega
       subst this
       refine wpS_bind (wpS_get ?_)
       rw [show (pendingOf st2).back? = none by rw [b2.pe]; rfl]
       dsimp only
       exact wpS_bind (wpS_modify (wpS_pure (.inr ⟨by omega, rfl, fin ix2 st2 b2 u2⟩)))
   · dsimp only
     rw [if_pos (Nat.le_refl _)]
     exact wpS_pure ⟨rfl, f⟩
 case rest =>
   rintro c st' ⟨rfl, ix', z1, z2, z3, z4, z5, z6⟩
   dsimp only
   refine wpS_bind (wpS_mono (wpS_forRange (I := fun _ c st2 => st2 = st' ∧ c = (none, ())) (Q := fun c st2 => st2 = st' ∧ c = (none, ())) ?_ (fun _ _ y => y) ⟨rfl, rfl⟩) ?_)
   · rintro x c st2 _ _ ⟨rfl, rfl⟩
     refine wpS_bind (wpS_get ?_)
     rw [if_pos (by rw [z5]; exact Nat.le_refl 1)]
     exact wpS_pure ⟨rfl, rfl⟩
   · rintro c st2 ⟨rfl, rfl⟩
     exact wpS_pure (h ix' _ z1 z2 z3 z4 z6)
end
end L6
namespace L6
open PySem PyProof.Rows
section
variable {prog : Program} {w : World} {A : Around} {E : Value → Shared → Prop} {s : Shared}
structure Ord {α : Type} (blt : α → α → Bool) (k : Nat → α) (n : Nat) (ix : Nat → Nat) : Prop where
 bj : Bij ix n
 up : Up blt k ix n
def pickV (vs : List Value) (ix : Nat → Nat) : List Value := (List.range vs.length).map fun i => vs.getD (ix i) .none
structure KeysOk {α : Type} (prog : Program) (w : World) (A : Around) (s : Shared) (ks vs : List Value) (blt : α → α → Bool) (k : Nat → α) : Prop where
 wo : WO blt
 kd : 2 ≤ vs.length → ∃ kd : SortKind, (∀ (E : Value → Shared → Prop) (Q : SortKind → Shared → Prop), Q kd s → wpAny (model prog w) A (keyKind' ks.toArray) Q E s) ∧ CmpOk prog w A s kd (ks.toArray.zip vs.toArray) blt k
theorem zip_at {ks vs : List Value} (hl : ks.length = vs.length) {i : Nat} {p : Keyed} (h : (ks.toArray.zip vs.toArray)[i]? = some p) : ks[i]? = some p.1 ∧ vs[i]? = some p.2 := by
 have : (ks.zip vs)[i]? = some p := by
   have e : ks.toArray.zip vs.toArray = (ks.zip vs).toArray := by simp
   rw [e] at h
   simpa using h
 rw [List.getElem?_zip_eq_some] at this
 exact this
theorem pick_at {vs : List Value} {ks : List Value} (hl : ks.length = vs.length) {ix : Nat → Nat} (bj : Bij ix vs.length) {arr : Array Keyed} (hz : arr.size = vs.length) (h : ∀ i, i < vs.length → arr[i]? = (ks.toArray.zip vs.toArray)[ix i]?) : arr.map (·.2) = (pickV vs ix).toArray := by
 refine Array.ext (by simp [pickV, hz]) fun i h1 h2 => ?_
 have hi : i < vs.length := by simpa [pickV] using h2
 have hx := bj.lt i hi
 have h3 := h i hi
 obtain ⟨p, hp⟩ : ∃ p, arr[i]? = some p := ⟨_, Array.getElem?_eq_getElem (by omega)⟩
 have h4 := (zip_at hl (h3.symm.trans hp)).2
 have e1 : (arr.map (·.2))[i]? = some p.2 := by simp [hp]
 have e2 : (pickV vs ix).toArray[i]? = some p.2 := by
   simp only [pickV, List.getElem?_toArray, List.getElem?_map, List.getElem?_range hi, Option.map_some]
   rw [List.getD_eq_getElem?_getD, h4]
   rfl
 rw [Array.getElem?_eq_getElem h1] at e1
 rw [Array.getElem?_eq_getElem h2] at e2
 exact Option.some.inj (e1.trans e2.symm)
end
end L6
namespace L6
open PySem PyProof.Rows PySem.W
theorem wo_int : WO (fun a b : Int => decide (a < b)) := ⟨fun a => by simp, fun a b c h h' => by simp at *; omega, fun a b c h => by simp at *; omega⟩
section
variable {prog : Program} {w : World} {A : Around} {s : Shared} {ks vs : List Value}
theorem keys_int {ns : List Int} (hl : ks.length = vs.length) (hk : ∀ (i : Nat) v, ks[i]? = some v → ∃ t, v = .int (ns.getD i 0) t) : KeysOk prog w A s ks vs (fun a b : Int => decide (a < b)) (fun i => ns.getD i 0) := by
 refine ⟨wo_int, fun h2 => ⟨oneType', fun E Q q => ?_, fun i j x p y q E Q hi hj h => ?_⟩⟩
 · refine kas_kind (T := .type "int") (by omega) (fun v hv => ?_) (by rfl) (by rfl) q
   obtain ⟨i, hi⟩ := List.mem_iff_getElem?.mp hv
   obtain ⟨t, rfl⟩ := hk i v hi
   exact .now
 · obtain ⟨t, rfl⟩ := hk i x (zip_at hl hi).1
   obtain ⟨u, rfl⟩ := hk j y (zip_at hl hj).1
   exact kat_lt_int h
end
end L6
namespace L2
open PySem PySem.Spec
open PyProof.Rows hiding St
section
variable {X : Cx} {pins : List (Addr × Obj)} {σ : St} {H : Hp} {s : Shared} {h' : Heap}
theorem Inv.adopt {q : Addr} {o : HO} {t' : Nat} (I : Inv X pins σ H s) (fp : FpOk X pins H q) (k : ∀ b u, b ≠ q → s.heap.get? b = some u → h'.get? b = some u) (new : ObjOk X.prog X.w (upd H q o) h' q o) : Inv X pins σ (upd H q o) { s with heap := h', toks := t' } := by
 obtain ⟨f0, f1, f2, f3, f4, f5⟩ := fp
 have nq : ∀ c u, H c = some u → c ≠ q := fun c u e => ne_of_none e f0
 refine I.step (g' := s.gens) (d' := s.drawn) (ch := [q]) (fun b hb => ?_) (fun b o _ _ hc e _ => k b o (fun z => hc (by simp [z])) e) (fun b o _ _ hc e _ => ⟨o.slots, k b o (fun z => hc (by simp [z])) e⟩)
   (fun b o hc _ n => by rw [upd_ne (fun z => hc (by simp [z]))]; exact n) (fun b o hc e => ⟨o, k b o (fun z => hc (by simp [z])) e⟩) (fun b xs e => by rw [upd_ne (nq _ _ e)]; exact e) (fun b o u e => by rw [upd_ne (nq _ _ e)]; exact e)
   (fun b ps e => ⟨#[], by rw [upd_ne (nq _ _ e), e]; simp⟩) (fun m hm => ?_) (fun b u e => ?_) I.bare
 · have e : b = q := by simpa using hb
   subst e
   exact ⟨f3, f1, f4, f5⟩
 · obtain ⟨o, es, ep, ho, r⟩ := hm
   exact ⟨o, es, ep, k _ o (Ne.symm f1) ho, r⟩
 · by_cases hb : b = q
   · subst hb; rw [upd_same] at e; cases e; exact new
   · rw [upd_ne hb] at e
     refine (I.hok b u e).stay (fun c v hc r => k c v ?_ r) (fun c r => by rw [upd_ne (nq _ _ r)]; exact r) fun c xs r => by rw [upd_ne (nq _ _ r)]; exact r
     rcases hc with z | z
     · rw [z]; exact hb
     · exact nq _ _ z
end
end L2
namespace L6
open PySem PySem.Spec
open PyProof.Rows hiding St
open L2 L3
def pickL {α : Type} (d : α) (xs : List α) (ix : Nat → Nat) : List α := (List.range xs.length).map fun i => xs.getD (ix i) d
section
variable {X : Cx} {pins : List (Addr × Obj)} {σ : St} {H : Hp} {s : Shared}
theorem Vals.pick {xs : List V} {vs : List Value} (r : Vals xs vs) {ix : Nat → Nat} (bj : Bij ix vs.length) : Vals (pickL .non xs ix) (pickV vs ix) := by
 have hl := r.length
 have go : ∀ l : List Nat, (∀ i ∈ l, i < vs.length) → Vals (l.map fun i => xs.getD (ix i) .non) (l.map fun i => vs.getD (ix i) .none) := by
   intro l
   induction l with
   | nil => exact fun _ => .nil
   | cons i l ih =>
     intro h
     have hi := bj.lt i (h i List.mem_cons_self)
     have e1 : xs[ix i]? = some (xs.getD (ix i) .non) := by rw [List.getD_eq_getElem?_getD, List.getElem?_eq_getElem (by omega)]; rfl
     obtain ⟨u, hu, ru⟩ := Vals.get r e1
     have e2 : vs.getD (ix i) .none = u := by rw [List.getD_eq_getElem?_getD, hu]; rfl
     refine .cons ?_ (ih fun j hj => h j (List.mem_cons_of_mem _ hj))
     show L2.RelV (xs.getD (ix i) .non) (vs.getD (ix i) .none)
     rw [e2]
     exact ru
 unfold pickL pickV
 rw [hl]
 exact go _ fun i hi => List.mem_range.mp hi
end
end L6
namespace L3
open PySem PySem.Spec
open PyProof.Rows hiding St
open L2
section
variable {K : PySem.W.Frag} {O : Ob}
def popSet (n m : Nat) : DS := fun Dd ρ => ∃ ds d, ρ[m]? = some (some (.own (ds ++ [d]))) ∧ flat d = true ∧ Dd.nx ((ρ.set m (some (.own ds))).set n (some (.im d)))
theorem last_of {F : Addr → Prop} {H : Hp} {xs : List V} {ds : List PyData} {d : PyData} (hs : IsAll K F H xs (ds ++ [d])) : ∃ v, xs[xs.length - 1]? = some v ∧ Is K F H v d ∧ IsAll K F H xs.dropLast ds := by
 have hl := hs.length
 rw [List.length_append] at hl
 obtain ⟨v, hv, iv⟩ := hs.get (i := ds.length) (d := d) (by simp)
 refine ⟨v, by rw [hl]; simpa using hv, iv, ?_⟩
 have := isAll_dropLast hs
 rwa [List.dropLast_concat] at this
theorem sd_popSet {n m : Nat} : SD K O (tAsg (tBM0 K "list" rPop (tVar m)) (gName n)) (popSet n m) := fun H₀ A σ H ρ D Dd r q P => by
 obtain ⟨ds, d, e, fl, q⟩ := q
 obtain ⟨v, hv, a, xs, rfl, ha, hl, hs⟩ := r.at_ m _ e
 obtain ⟨u, hu, iu, hs2⟩ := last_of hs
 refine ⟨_, hv, .inl ⟨rfl, xs, .of hl⟩, a, xs, u, rfl, rfl, hl, hu, ?_⟩
 have r1 := r.change e hv ha hs2
 have ts : TupStay H (upd H a (.lst xs.dropLast)) := fun b o ho hb => by
   rw [upd_ne]
   · exact hb
   · intro z
     subst z
     rw [hl] at hb
     cases hb
     obtain ⟨ys, h1 | ⟨_, h1⟩⟩ := ho <;> cases h1
 exact P.nx _ _ _ _ (r1.setIm (Is.flat ts iu fl)) ((Frm.change ha).trans (.setIm (.refl _ _))) q
end
section
variable {X : Cx}
def rExtT (K : PySem.W.Frag) : V → List V → Hp → VK → Prop := fun x vs H Q => ∃ l b xs zs, x = .ref l ∧ vs = [.ref b] ∧ H l = some (.lst xs) ∧ SqT K H b zs ∧ xs.length + zs.length ≤ sizeLine ∧ Q .non (upd H l (.lst (xs ++ zs)))
theorem mt_extT : MtR X "list.extend" (rExtT X.K) := by
 intro pins s σ H x vs v us Q I rx rv h
 obtain ⟨l, b, xs, zs, rfl, rfl, hH, hB, hz, q⟩ := h
 cases rx
 obtain ⟨u, rfl, ru⟩ := rv.one
 cases ru
 obtain ⟨z, its, n, r, hl, e⟩ := I.lstM hH
 obtain ⟨its2, r2, ⟨o2, e2, c2, n2, d2⟩, z2⟩ := I.tuple hB
 have hl2 := r2.length
 have hsz : its.toArray.size + its2.toArray.size ≤ sizeLine := by rw [List.size_toArray, List.size_toArray]; omega
 have hlong : ¬ (!its.toArray.isEmpty && Builtin.List.listTooLong (its.toArray.size + its2.toArray.size)) = true := by
   rw [notLongL hsz, Bool.and_false]
   exact Bool.false_ne_true
 refine wpAny_call_entry F.slot_list_extend ⟨_, e, rfl⟩ F.entry_list_extend ?_ (F.args_list_extend_2 _ _)
 unfold Builtin.«list.extend»
 refine wpAny_bind (wpAny_of_eq (a := (Value.ref l, Value.ref b)) rfl ?_)
 dsimp only
 unfold Builtin.List.listExtendWith
 refine wpAny_bind (wpAny_typeOf (T := "tuple") ⟨o2, e2, c2⟩ ?_)
 rw [if_pos (by simp)]
 refine wpAny_bind (listItems_at e2 d2 ?_)
 refine wpAny_bind (listItems_at e rfl ?_)
 rw [if_neg hlong]
 refine wpAny_bind (listUpdate_at e rfl ?_ (by rw [List.size_toArray]; omega) (by rw [Array.size_append]; omega))
 refine wpAny_pure ⟨_, rfl, ?_⟩
 refine ⟨.non, _, I.lset (its' := its ++ its2) hH e (by simp) (r.append r2) ?_, rfl, q⟩
 rw [List.length_append]
 omega
end
section
variable {K : PySem.W.Frag} {O : Ob}
def extT (i : Nat) (f : DE) : DS := fun Dd ρ => ∃ ds, ρ[i]? = some (some (.own ds)) ∧ f ρ fun r => ∃ es, r.d = .tuple es ∧ flats es = true ∧ ds.length + es.length ≤ sizeLine ∧ Dd.nx (ρ.set i (some (.own (ds ++ es))))
theorem sd_extT {i : Nat} {t : TE} {f : DE} (h : ED K O t f) : SD K O (tDrop (tBM K "list" (rExtT K) (tVar i) (tCons t tNil))) (extT i f) := fun H₀ A σ H ρ D Dd r q P => by
 obtain ⟨ds, e, q⟩ := q
 obtain ⟨v, hv, a, xs, rfl, ha, hl, hs⟩ := r.at_ i _ e
 refine ⟨_, hv, ?_⟩
 refine ⟨.inl ⟨rfl, xs, .of hl⟩, ?_⟩
 refine h σ H ρ _ _ r.seen q fun w H1 x s1 o1 ⟨es, ed, fl, hz, q1⟩ => ?_
 have r1 := r.stp s1
 obtain ⟨v1, hv1, a1, xs1, e1, ha1, hl1, hs1⟩ := r1.at_ i _ e
 rw [hv] at hv1
 cases hv1
 cases e1
 have iw := o1.is r.ok r.p
 rw [ed] at iw
 cases iw with
 | tuple h1 s2 =>
   refine ⟨a, _, xs1, _, rfl, rfl, hl1, h1, by rw [hs1.length, s2.length]; exact hz, ?_⟩
   exact P.nx A σ _ _ (r1.change e hv ha (hs1.append (IsAll.flats (TupStay.refl H1) s2 fl))) ((Frm.stp s1).trans (.change ha)) q1
end
end L3
namespace L3
open PySem PySem.Spec
open PyProof.Rows hiding St
open L2
section
variable {K : PySem.W.Frag} {O : Ob}
def unpT (is : List Nat) (f : DE) : DS := fun Dd ρ => f ρ fun r => ∃ ds, r.d = .tuple ds ∧ flats ds = true ∧ gTD is ds ρ Dd.nx
theorem sd_unpT {is : List Nat} {n : Nat} {t : TE} {tg : TGs} {f : DE} (hn : is.length = n) (h : ED K O t f) (hg : GRs K O tg is) : SD K O (tAsg t (gTup K n tg)) (unpT is f) := fun H₀ A σ H ρ D Dd r q P => by
 refine h σ H ρ _ _ r.seen q fun v H1 x s1 o1 ⟨ds, e, fl, q1⟩ => ?_
 have r1 := r.stp s1
 have iw := o1.is r.ok r.p
 rw [e] at iw
 cases iw with
 | tuple h1 s2 =>
   refine ⟨_, _, rfl, h1, by rw [s2.length, gTD_len q1]; exact hn, ?_⟩
   exact hg H₀ A σ H1 ρ _ ds _ _ r1 fl (IsAll.flats (TupStay.refl H1) s2 fl) q1 fun A' σ' ρ' r' f' q' => P.nx A' σ' H1 ρ' r' ((Frm.stp s1).trans f') q'
end
section
variable {ι κ : Type} {P : Program} {w : World} {K : PySem.W.Frag} {mg : Str → Option Value} {base : Heap} {k : Nat} {X : ι → Cx} {O : κ → Ob} {a b c : Expr} {fa fb : DE} {pos p : Pos} {es : List Expr} {ga : DA}
theorem pe_popV {X : Cx} {n : Nat} {x : Str} {px apos cpos : Pos} (hN : X.N[n]? = some x) (hv : Vis X.env.scope x) (hd : (x == ("__debug__" : Str)) = false) (hcd : (x == ("__classdict__" : Str)) = false) (hbase : attributeBase (.Name x px) "pop" X.env (eval (.Name x px) X.env) = eval (.Name x px) X.env) (hline : (apos.endLine == cpos.line) = true) :
   PE X (.Call (.Attribute (.Name x px) "pop" apos) [] [] cpos) (tBM0 X.K "list" rPop (tVar n)) := pe_bm0 (apos := apos) (cpos := cpos) PySem.F.plainAttrs_list PySem.F.slot_list_pop PySem.F.type_list_pop (mtr_pop (X := X)) (pe_var (pos := px) hN hv hd hcd) hbase hline
theorem s_setPop (n m : Nat) {x y : Str} {px py apos cpos : Pos} (C : Ctx3 P w K mg base k X) (hM : ∀ i, (X i).N[m]? = some y := by intro i; rfl) (hv : ∀ i, Vis (X i).env.scope y := by intro i; first | exact Or.inl rfl | exact Or.inr (Or.inl rfl) | exact Or.inr (Or.inr rfl)) (hd : (y == ("__debug__" : Str)) = false := by decide) (hcd : (y == ("__classdict__" : Str)) = false := by decide)
   (hbase : ∀ i, attributeBase (.Name y py) "pop" (X i).env (eval (.Name y py) (X i).env) = eval (.Name y py) (X i).env := by intro i; rfl) (hline : (apos.endLine == cpos.line) = true := by rfl)
   (hN : ∀ i, (X i).N.Nodup := by intro i; exact of_decide_eq_true (by kernel_rfl)) (hi : ∀ i, (X i).N[n]? = some x := by intro i; rfl) (hx : ∀ i, Loc (X i).env.scope x := by intro i; first | exact Or.inl rfl | exact Or.inr rfl)
   (hs : ∀ i, swapsWith (.Call (.Attribute (.Name y py) "pop" apos) [] [] cpos) (some (.Name x px)) pos.line (X i).env = pure false := by intro i; rfl) (hf : ∀ i, (X i).fn x = true ∨ (X i).env.scope.names.lookup x = some .local := by intro i; first | exact .inl rfl | exact .inr rfl) :
   S3 K X O (.Assign [.Name x px] (.Call (.Attribute (.Name y py) "pop" apos) [] [] cpos) pos) (popSet n m) :=
 ⟨_, fun i => by
   have h := pe_popV (X := X i) (px := py) (apos := apos) (cpos := cpos) (hM i) (hv i) hd hcd (hbase i) hline
   rw [C.hK] at h
   exact ps_set (hN i) (hi i) (hx i) h (hs i) (hf i), fun j => sd_popSet⟩
theorem s_extT (n : Nat) {x : Str} {px apos cpos : Pos} (C : Ctx3 P w K mg base k X) (hb : E3 K X O b fb) (hN : ∀ i, (X i).N[n]? = some x := by intro i; rfl) (hv : ∀ i, Vis (X i).env.scope x := by intro i; first | exact Or.inl rfl | exact Or.inr (Or.inl rfl) | exact Or.inr (Or.inr rfl)) (hd : (x == ("__debug__" : Str)) = false := by decide) (hcd : (x == ("__classdict__" : Str)) = false := by decide)
   (hbase : ∀ i, attributeBase (.Name x px) "extend" (X i).env (eval (.Name x px) (X i).env) = eval (.Name x px) (X i).env := by intro i; rfl)
   (hfew : ∀ i, ((backTo cpos (starEach [b] (X i).env)).all (fun x => !x.1) && (backToKw cpos (keywordEach [] (X i).env)).all (fun x => x.1.isSome) && decide (([b] : List Expr).length + ([] : List Keyword).length + (if ([] : List Keyword).isEmpty then 0 else 1) < 30)) = true := by intro i; rfl)
   (hline : (apos.endLine == cpos.line) = true := by rfl) (hs : ∀ i, starEach [b] (X i).env = [(false, eval b (X i).env)] := by intro i; rfl) (hsw : ∀ i, swapsWith (.Call (.Attribute (.Name x px) "extend" apos) [b] [] cpos) none pos.line (X i).env = pure false := by intro i; rfl) :
   S3 K X O (.Expr (.Call (.Attribute (.Name x px) "extend" apos) [b] [] cpos) pos) (extT n fb) := let ⟨_, p2, d2⟩ := hb;
 ⟨tDrop (tBM K "list" (rExtT K) (tVar n) (tCons _ tNil)), fun i => by
   have h := pe_bm (apos := apos) (cpos := cpos) PySem.F.plainAttrs_list PySem.F.slot_list_extend PySem.F.type_list_extend (mt_extT (X := X i)) (pe_var (pos := px) (hN i) (hv i) hd hcd) (pa_cons (p2 i) pa_nil (hs i)) (hbase i) (hfew i) hline (hs i)
   rw [C.hK] at h
   exact ps_expr h (hsw i), fun j => sd_extT (d2 j)⟩
theorem s_unpT {h n : Nat} {es : List Expr} {is : List Nat} {j : Nat} {tp : Pos} (C : Ctx3 P w K mg base k X) (ha : E3 K X O a fa) (hr : Gs3 K X h es is) (hn : is.length = n := by rfl) (hn2 : ∀ i, (assignEach es (X i).env).length = n := by intro i; rfl) (hst : ∀ i, (assignEach es (X i).env).findIdx? (·.1) = none := by intro i; rfl)
   (hs : ∀ i, swapsWithSole [.Tuple es j tp] a pos.line (X i).env = pure false := by intro i; rfl) (hw : ∀ i, swappedStores [.Tuple es j tp] a (X i).env = pure none := by intro i; rfl) (h1 : ∀ i, (assignEach [.Tuple es j tp] (X i).env).map (·.2) = [assign (.Tuple es j tp) (X i).env] := by intro i; rfl) :
   S3 K X O (.Assign [.Tuple es j tp] a pos) (unpT is fa) := let ⟨_, p, d1, d2, o, m⟩ := hr; let ⟨_, q, d⟩ := ha;
 ⟨tAsg _ (gTup K n _), fun i => by have z := pg_tup (pos := tp) (k := j) (C.calm i) (p i) (hn2 i) (hst i); rw [C.hK] at z; exact ps_asg (q i) z (hs i) (hw i) (h1 i), fun jj => sd_unpT hn (d jj) (d2 (O jj))⟩
end
end L3
namespace L3
open PySem PySem.Spec
open PyProof.Rows hiding St
open L2
theorem comp_each {α β : Type} {enc : α → PyData} {enc2 : β → PyData} {good : β → Prop} {i h : Nat} {fe : DE} {ρ : DSt} {Q : List PyData → Prop} {as : List α}
   (step : ∀ a ∈ as, ∀ (Py : PyData → Prop), (∀ b, good b → Py (enc2 b)) → fe ((List.replicate h none ++ ρ).set i (some (.im (enc a)))) (fun r => Py r.d))
   (hz : as.length ≤ 1000) (q : ∀ bs : List β, (∀ b ∈ bs, good b) → bs.length = as.length → Q (bs.map enc2)) : compGo h (gN i) (fun _ Q => Q true) fe ρ Q (as.map enc) [] := by
 have sz := sizeLine_eq
 have key : ∀ (l : List α) (bs : List β), (∀ a ∈ l, a ∈ as) → (∀ b ∈ bs, good b) → bs.length + l.length = as.length → compGo h (gN i) (fun _ Q => Q true) fe ρ Q (l.map enc) (bs.map enc2) := by
   intro l
   induction l with
   | nil => intro bs _ hb hl; exact q bs hb hl
   | cons a l ih =>
     intro bs hs hb hl
     rw [List.length_cons] at hl
     refine iteT (B := True) (step a (hs a List.mem_cons_self) (fun d => (bs.map enc2).length < sizeLine ∧ compGo h (gN i) (fun _ Q => Q true) fe ρ Q (l.map enc) (bs.map enc2 ++ [d])) fun b gb => ⟨by rw [List.length_map]; omega, ?_⟩)
     have := ih (bs ++ [b]) (fun x hx => hs x (List.mem_cons_of_mem _ hx)) (fun x hx => by rcases List.mem_append.mp hx with hx | hx; (exact hb x hx); (rw [List.mem_singleton.mp hx]; exact gb)) (by rw [List.length_append, List.length_singleton]; omega)
     rwa [List.map_append] at this
 exact key as [] (fun _ h => h) (by simp) (by simp)
theorem mem_snoc {α : Type} {P : α → Prop} {xs : List α} {a : α} (h : ∀ x ∈ xs, P x) (ha : P a) : ∀ x ∈ xs ++ [a], P x := fun x hx => by
 rcases List.mem_append.mp hx with hx | hx
 · exact h x hx
 · rw [List.mem_singleton.mp hx]; exact ha
end L3
namespace SX
open PySem PySem.Spec PyProof.Rows
section
variable {P : Program} {w : World} {A : Around} {E : Value → Shared → Prop} {s : Shared}
abbrev Ext (h h' : Heap) : Prop := ∀ b o, h.get? b = some o → h'.get? b = some o
end
end SX
namespace SX
open PySem PySem.Spec PyProof.Rows
section
variable {P : Program} {w : World} {A : Around} {E : Value → Shared → Prop} {s : Shared} {α : Type}
theorem wp_f {c : Prop} [Decidable c] {a b : Sem α} {Q : α → Shared → Prop} (hc : ¬ c) (h : wpAny (model P w) A b Q E s) : wpAny (model P w) A (if c then a else b) Q E s := by
 rw [if_neg hc]
 exact h
theorem wp_t {c : Prop} [Decidable c] {a b : Sem α} {Q : α → Shared → Prop} (hc : c) (h : wpAny (model P w) A a Q E s) : wpAny (model P w) A (if c then a else b) Q E s := by
 rw [if_pos hc]
 exact h
end
end SX
namespace SX
open PySem PySem.Spec PyProof.Rows
section
variable {P : Program} {w : World} {A : Around} {E : Value → Shared → Prop} {s : Shared} {it S : Addr} {es : Es} {ep : Nat} {t : SetTable}
abbrev lO (xs : Array Value) (c : Nat) : Obj := { cls := .type "list", dict := none, data := .seq xs c, slots := #[] }
theorem upd_at {a : Addr} {xs : Array Value} {c : Nat} (f : Array Value → Array Value) {Q : Unit → Shared → Prop} (ho : s.heap.get? a = some (lO xs c)) (hz : xs.size ≤ sizeLine) (hz2 : (f xs).size ≤ sizeLine + 1)
   (h : ∀ h' c', h'.get? a = some (lO (f xs) c') → Heap.SameBut a s.heap h' → Q () { s with heap := h' }) : wpAny (model P w) A (Builtin.List.listUpdate (.ref a) f) Q E s :=
 listUpdate_at ho rfl (h _ _ (Heap.get?_update_self (Obj.mapSeq f) ho rfl) (.update ..)) hz hz2
end
end SX
namespace L3
open PySem PySem.Spec
open PyProof.Rows hiding St
open L2
theorem comp_fil {α : Type} {enc : α → PyData} {i h : Nat} {ft : DT} {fe : DE} {ρ : DSt} {Q : List PyData → Prop} {as : List α} {p : α → Bool} {e : α → PyData}
   (step : ∀ a ∈ as, ∀ (Pn : Prop) (Py : R → Prop), (p a = false → Pn) → (p a = true → ∀ r, r.d = e a → Py r) → ft ((List.replicate h none ++ ρ).set i (some (.im (enc a)))) fun t => if t = true then fe ((List.replicate h none ++ ρ).set i (some (.im (enc a)))) Py else Pn)
   (hz : as.length ≤ sizeLine) (q : Q ((as.filter p).map e)) : compGo h (gN i) ft fe ρ Q (as.map enc) [] := by
 have key : ∀ (l : List α) (acc : List PyData), (∀ a ∈ l, a ∈ as) → acc.length + l.length ≤ sizeLine → Q (acc ++ (l.filter p).map e) → compGo h (gN i) ft fe ρ Q (l.map enc) acc := by
   intro l
   induction l with
   | nil => intro acc _ _ q; show Q acc; simpa using q
   | cons a l ih =>
     intro acc hs hz q
     rw [List.length_cons] at hz
     refine step a (hs a List.mem_cons_self) (compGo h (gN i) ft fe ρ Q (l.map enc) acc) (fun r => acc.length < sizeLine ∧ compGo h (gN i) ft fe ρ Q (l.map enc) (acc ++ [r.d])) (fun hp => ?_) (fun hp r hr => ⟨by omega, ?_⟩)
     · refine ih acc (fun b hb => hs b (List.mem_cons_of_mem _ hb)) (by omega) ?_
       rw [List.filter_cons, hp] at q
       exact q
     · refine ih _ (fun b hb => hs b (List.mem_cons_of_mem _ hb)) (by rw [List.length_append, List.length_singleton]; omega) ?_
       rw [List.filter_cons, hp, if_pos rfl, List.map_cons] at q
       rw [hr, List.append_assoc]
       exact q
 exact key as [] (fun _ h => h) (by simpa using hz) (by simpa using q)
theorem eq_self {x : Str} {neg : Bool} (h : PyData.strOk x = true) : eqF neg (.str x) (.str x) = some (.o (.bool (!neg))) := by
 have := eq_nice (neg := neg) (nice_str h (Nat.le_refl _)) (nice_str h (Nat.le_refl _)) (q := true) (hq := ⟨fun _ => rfl, fun _ => rfl⟩)
 rw [this]
 cases neg <;> rfl
end L3
namespace DU
open PySem PySem.Spec PyProof.Rows SX
section
variable {P : Program} {w : World} {A : Around} {E : Value → Shared → Prop} {s : Shared} {K : Type} [DecidableEq K] {knd : PySem.KeyKind P w K}
theorem collect_dict {d : Addr} {kvs : List (K × Value)} {ep : Nat} {Q : List Value → Shared → Prop} (hh : A.handled = none) (hd : (d == sysModules) = false) (D : s.heap.DictAt knd d kvs ep) (hz : kvs.length ≤ sizeLine)
   (k : ∀ (h' : Heap) (tk : Nat) (vs : List Value), Ext s.heap h' → vs.length = kvs.length → (∀ (i : Nat) v, vs[i]? = some v → ∃ p, kvs[i]? = some p ∧ knd.is p.1 v = true) → s.heap.objs.size < h'.objs.size → Q vs { s with heap := h', toks := tk }) : wpAny (model P w) A (collect (.ref d)) Q E s := by
 have hlt := D.lt_size
 unfold collect
 refine wpAny_bind (wpAny_runValue (codeAny_builtin F.entry_proto_collect ?_))
 rw [Around.under_plainId F.plain_proto_collect _]
 refine wpAny_bind (m := newList []) (wpAny_newObj_type ?_)
 refine wpAny_pure ⟨plainId_quiet F.plain_list_iadd _, codeAny_builtin F.entry_list_iadd ?_⟩
 rw [Around.under_plainId F.plain_list_iadd _]
 have D1 : (s.heap.push (lO #[] 0)).DictAt knd d kvs ep := D.push _
 have eL : (s.heap.push (lO #[] 0)).get? s.heap.objs.size = some (lO #[] 0) := Heap.get?_push_size _ rfl
 have sz1 : (s.heap.push (lO #[] 0)).objs.size = s.heap.objs.size + 1 := Heap.size_push ..
 show wpAny _ A.in1 (Builtin.List.listExtendWith (.ref s.heap.objs.size) (.ref d) (.ref s.heap.objs.size)) _ _ { s with heap := s.heap.push (lO #[] 0) }
 unfold Builtin.List.listExtendWith
 refine wpAny_bind (wpAny_typeOf (D1.dictOf.typeIs (s := { s with heap := s.heap.push (lO #[] 0) })) ?_)
 have nsr : Builtin.List.listSameRef (.ref s.heap.objs.size) (.ref d) = false := by
   show (s.heap.objs.size == d) = false
   exact beq_eq_false_iff_ne.mpr (Nat.ne_of_gt hlt)
 rw [nsr]
 refine wp_f (by decide) ?_
 refine wpAny_bind (wpAny_pyIter_dict (s := { s with heap := s.heap.push (lO #[] 0) }) hd D1 ?_)
 generalize hI : (⟨.type "dict_keyiterator", none, .fields #[.ref d, .int 0 0, .int kvs.length 0, .int ep 0], #[]⟩ : Obj) = oI
 have D2 : ((s.heap.push (lO #[] 0)).push oI).DictAt knd d kvs ep := D1.push _
 have eI : ((s.heap.push (lO #[] 0)).push oI).get? (s.heap.push (lO #[] 0)).objs.size = some oI := Heap.get?_push_size _ (by rw [← hI]; rfl)
 have tS : Shared.TypeIs { s with heap := (s.heap.push (lO #[] 0)).push oI } (.ref d) "dict" := D2.dictOf.typeIs (s := { s with heap := (s.heap.push (lO #[] 0)).push oI })
 refine wpAny_bind (wpAny_holding ?_)
 unfold Builtin.List.listLengthHint
 refine wpAny_bind (wpAny_specialOf tS F.slot_dict_len.lookup ?_)
 generalize hid : ("dict.__len__" : String) = id0
 (fail_if_success (clear hid id0))
 wp_delta
 rw [show splitId id0 = some ("dict", "__len__") from by subst hid; decide +kernel]
 subst hid
 refine wpAny_bind (wpAny_isInstance (b := true) tS F.kt_sub_dict ?_)
 refine wp_f (by decide) ?_
 refine wp_t (by decide +kernel) ?_
 refine wpAny_bind (wpAny_typeOf tS ?_)
 refine wpAny_pure ?_
 refine wp_t (by decide +kernel) ?_
 refine wpAny_bind (wpAny_rule ?_)
 refine wpAny_bind ?_
 unfold Builtin.List.listTouch
 have h64 : (0 : Nat) ≤ sizeLine := Nat.zero_le _
 have eL2 : ((s.heap.push (lO #[] 0)).push oI).get? s.heap.objs.size = some (lO #[] 0) := Heap.get?_push_of_some _ eL
 refine wpAny_bind (upd_at (s := { s with heap := (s.heap.push (lO #[] 0)).push oI }) (·.push Value.none) eL2 h64 (by simp) fun h3 c3 e3 b3 => ?_)
 refine upd_at (s := { s with heap := h3 }) (·.pop) e3 (by rw [sizeLine_eq]; decide) (by simp) fun h4 c4 e4 b4 => ?_
 have keep : ∀ b o, b ≠ s.heap.objs.size → ((s.heap.push (lO #[] 0)).push oI).get? b = some o → h4.get? b = some o := fun b o nb e => (b4.2 b nb).trans ((b3.2 b nb).trans e)
 have nI : d ≠ (s.heap.push (lO #[] 0)).objs.size := by rw [sz1]; exact Nat.ne_of_lt (Nat.lt_succ_of_lt hlt)
 have nLI : (s.heap.push (lO #[] 0)).objs.size ≠ s.heap.objs.size := by rw [sz1]; exact Nat.succ_ne_self _
 have st4 : h4.IsKeyIter (s.heap.push (lO #[] 0)).objs.size d 0 kvs.length ep ∧ h4.DictAt knd d kvs ep := by
   refine ⟨⟨oI, keep _ _ nLI eI, by subst hI; rfl, by subst hI; rfl⟩, ?_⟩
   obtain ⟨o, es, ho, r⟩ := D2
   exact ⟨o, es, keep d o (Nat.ne_of_lt hlt) ho, r⟩
 have nLf : s.heap.objs.size ∉ [(s.heap.push (lO #[] 0)).objs.size, d] := fun z => by
   simp only [List.mem_cons, List.not_mem_nil, or_false] at z
   rcases z with z | z
   · exact nLI z.symm
   · exact Nat.ne_of_gt hlt z
 refine wpAny_pure ⟨plainId_quiet F.plain_extend_loop _, codeAny_extend_loopS (Walks.dictKeys (A := A.in1) (knd := knd) (by simpa using hh) (s.heap.push (lO #[] 0)).objs.size d nI kvs ep).toS hz _ nLf _ kvs.length 0 { s with heap := h4 } #[] c4 rfl (Nat.zero_le _) st4 e4 (ItemsOf.nil _) fun s' acc c mv eA hacc => ?_⟩
 refine wpAny_bind (wpAny_load eA (wpAny_pure ?_))
 obtain ⟨h5, g5, d5, tk5, os5⟩ := s'
 obtain rfl : g5 = s.gens := mv.gens
 obtain rfl : d5 = s.drawn := mv.drawn
 obtain rfl : os5 = s.os := mv.os
 refine k h5 tk5 acc.toList (fun b o e => mv.heap b o (fun z => ?_) ?_) (by have := hacc.1; simpa using this) (fun i v e => ?_) (Heap.lt_size eA)
 · have hbl := Heap.lt_size e
   rcases List.mem_cons.mp z with z | z
   · exact Nat.ne_of_lt hbl z
   · have := List.mem_singleton.mp z
     rw [sz1] at this
     exact Nat.ne_of_lt (Nat.lt_succ_of_lt hbl) this
 · exact keep b o (Nat.ne_of_lt (Heap.lt_size e)) (Heap.get?_push_of_some _ (Heap.get?_push_of_some _ e))
 · obtain ⟨k', x, h1, h2⟩ := hacc.2 i v (by simpa using e)
   exact ⟨_, h1, h2⟩
end
end DU
namespace L3
open PySem PySem.Spec
open PyProof.Rows hiding St
open L2
theorem kv_of_is {k : Key} {v : Value} (h : keyIs k v = true) : RelV (kV k) v := by
 rcases keyIs_shape h with ⟨i, t, rfl, rfl⟩ | ⟨x, t, rfl, rfl⟩
 · exact ⟨t, rfl⟩
 · exact ⟨t, rfl⟩
end L3
namespace L6
open PySem PySem.Spec
open PyProof.Rows hiding St
open L2 L3
section
variable {X : Cx} {pins : List (Addr × Obj)} {σ : St} {H : Hp} {s : Shared}
theorem keys_vals : ∀ {kvs : List (Key × V)} {vs : List (Key × Value)} {us : List Value}, KV kvs vs → us.length = vs.length → (∀ (i : Nat) u, us[i]? = some u → ∃ p, vs[i]? = some p ∧ keyIs p.1 u = true) → Vals (kvs.map fun p => kV p.1) us
 | [], [], [], _, _, _ => .nil
 | [], [], _ :: _, _, hl, _ => by simp at hl
 | _ :: _, _ :: _, [], _, hl, _ => by simp at hl
 | p :: kvs, q :: vs, u :: us, .cons r t, hl, h => by
   refine .cons ?_ (keys_vals (vs := vs) t (by simpa using hl) fun i u e => ?_)
   · obtain ⟨p', e, hk⟩ := h 0 u rfl
     have e' : q = p' := by simpa using e
     subst e'
     show RelV (kV p.1) u
     rw [r.1]
     exact kv_of_is hk
   · obtain ⟨p', e, hk⟩ := h (i + 1) u (by simpa using e)
     exact ⟨p', by simpa using e, hk⟩
end
end L6
namespace RT
open PySem PySem.Spec PyProof.Rows
theorem slot_rev_init : Slot "reversed" "__init__" "object.__init__" :=
 .of (owner := "object") (n := "__init__") (by rw [typeLookup_type, builtinLookup_eq_fast]; kernel_rfl) (by decide +kernel) (by decide +kernel) (by decide +kernel)
   (by first | exact .inl (by decide +kernel) | exact .inr (by decide +kernel)) (by rw [isSubtype_type]; kernel_rfl)
theorem called_rev : TypeCalled "reversed" "reversed.__new__" "object.__init__" :=
 ⟨by decide +kernel, by decide +kernel, ⟨_, _, F.mro_reversed⟩, F.made_reversed, by decide +kernel, by rw [isSubtype_type]; kernel_rfl, slot_rev_init⟩
theorem owner_rev : Manifest.owners.lookup (String.ofList ['d', 'e', 's', 'r', 'e', 'v', 'e', 'r'].reverse) = some Manifest.sig_reversed := by kernel_rfl
theorem slot_rev_next : Slot "reversed" "__next__" "reversed.__next__" :=
 .of (owner := "reversed") (n := "__next__") (by rw [typeLookup_type, builtinLookup_eq_fast]; kernel_rfl) (by decide +kernel) (by decide +kernel) (by decide +kernel)
   (by first | exact .inl (by decide +kernel) | exact .inr (by decide +kernel)) (by rw [isSubtype_type]; kernel_rfl)
theorem entry_rev_next : entryFor table "reversed.__next__" = some Builtin.«reversed.__next__» := entryFor_of_tree (by kernel_rfl)
theorem args_rev_next (a : Value) : argsOk "reversed.__next__" ⟨[a], []⟩ := by
 unfold argsOk; rw [signature?_of (id := "reversed.__next__") (n := ['_', '_', 't', 'x', 'e', 'n', '_', '_']) (o := ['d', 'e', 's', 'r', 'e', 'v', 'e', 'r']) (by kernel_rfl) owner_rev]; kernel_rfl
theorem slot_rev_iter : Slot "reversed" "__iter__" "reversed.__iter__" :=
 .of (owner := "reversed") (n := "__iter__") (by rw [typeLookup_type, builtinLookup_eq_fast]; kernel_rfl) (by decide +kernel) (by decide +kernel) (by decide +kernel)
   (by first | exact .inl (by decide +kernel) | exact .inr (by decide +kernel)) (by rw [isSubtype_type]; kernel_rfl)
theorem args_rev_iter (a : Value) : argsOk "reversed.__iter__" ⟨[a], []⟩ := by
 unfold argsOk; rw [signature?_of (id := "reversed.__iter__") (n := ['_', '_', 'r', 'e', 't', 'i', '_', '_']) (o := ['d', 'e', 's', 'r', 'e', 'v', 'e', 'r']) (by kernel_rfl) owner_rev]; kernel_rfl
theorem entry_rev_iter : entryFor table "reversed.__iter__" = some Builtin.«dict_keyiterator.__iter__» :=
 entryFor_alias (id' := "dict_keyiterator.__iter__") (by kernel_rfl) (by first | rfl | decide +kernel | (unfold String.splitOn; simp +decide [String.splitOnAux])) (by decide +kernel) (by kernel_rfl)
end RT
namespace RT
open PySem PySem.Spec PyProof.Rows SX
theorem rev_nolen : typeLookup (.type "reversed") "__len__" = pure none := by rw [typeLookup_type, builtinLookup_eq_fast]; kernel_rfl
theorem slot_rev_hint : Slot "reversed" "__length_hint__" "reversed.__length_hint__" :=
 .of (owner := "reversed") (n := "__length_hint__") (by rw [typeLookup_type, builtinLookup_eq_fast]; kernel_rfl) (by decide +kernel) (by decide +kernel) (by decide +kernel)
   (by first | exact .inl (by decide +kernel) | exact .inr (by decide +kernel)) (by rw [isSubtype_type]; kernel_rfl)
theorem entry_rev_hint : entryFor table "reversed.__length_hint__" = some Builtin.«reversed.__length_hint__» := entryFor_of_tree (by kernel_rfl)
theorem args_rev_hint (a : Value) : argsOk "reversed.__length_hint__" ⟨[a], []⟩ := by
 unfold argsOk; rw [signature?_of (id := "reversed.__length_hint__") (n := ['_', '_', 't', 'n', 'i', 'h', '_', 'h', 't', 'g', 'n', 'e', 'l', '_', '_']) (o := ['d', 'e', 's', 'r', 'e', 'v', 'e', 'r']) (by kernel_rfl) owner_rev]; kernel_rfl
theorem split_rev_hint : splitId "reversed.__length_hint__" = some ("reversed", "__length_hint__") := by decide +kernel
end RT
namespace L3
open PySem PySem.Spec
open PyProof.Rows hiding St
open L2 L6
section
variable {K : PySem.W.Frag} {O : Ob}
def augS (i : Nat) (f : DE) : DS := fun Dd ρ => ∃ a : Int, ρ[i]? = some (some (.im (.int a))) ∧ f ρ fun r => ∃ b : Int, r.d = .int b ∧ Dd.nx (ρ.set i (some (.im (.int (a + b)))))
theorem sd_aug {i : Nat} {t : TE} {f : DE} (h : ED K O t f) : SD K O (tAug i t (ipI fun i j => i + j)) (augS i f) := fun H₀ A σ H ρ D Dd r q P => by
 obtain ⟨a, e, q⟩ := q
 obtain ⟨v, hv, iv⟩ := r.at_ i _ e
 have iv' : Is K (unO O A) H v (.int a) := iv
 cases iv'
 refine ⟨_, hv, ?_⟩
 refine h σ H ρ _ _ r.seen q fun w H1 x s1 o1 ⟨b, eb, q1⟩ => ?_
 have i1 := o1.is r.ok r.p
 rw [eb] at i1
 cases i1
 exact ⟨a, b, rfl, rfl, P.nx _ _ H1 _ ((r.stp s1).setIm (.int (a + b))) (.setIm s1) q1⟩
def lrvD (f : DE) : DE := fun ρ Q => f ρ fun r => ∃ ds, r.d = .list ds ∧ Q (.n ds.reverse)
theorem isAll_rev {F : Addr → Prop} {H : Hp} : ∀ {xs : List V} {ds : List PyData}, IsAll K F H xs ds → IsAll K F H xs.reverse ds.reverse
 | _, _, .nil => .nil
 | _, _, .cons h t => by
   rw [List.reverse_cons, List.reverse_cons]
   exact (isAll_rev t).snoc h
theorem ed_listrev {t : TE} {f : DE} (h : ED K O t f) : ED K O (tLR K t) (lrvD f) := fun σ H ρ Q Qd S hf k => by
 refine h σ H ρ _ _ S hf fun v H1 r s1 o1 ⟨ds, e, q⟩ => ?_
 have i1 := o1.is S.ok S.p
 rw [e] at i1
 cases i1 with
 | list f0 ha hs =>
   refine ⟨_, _, rfl, .of ha, fun p hp => ?_⟩
   obtain ⟨a1, a2⟩ := out_list (K := K) S.ok hp (isAll_rev hs)
   exact k _ _ _ (s1.trans a1) (Out.ahead S.ok S.p s1 a2) q
end
section
variable {ι κ : Type} {P : Program} {w : World} {K : PySem.W.Frag} {mg : Str → Option Value} {base : Heap} {k : Nat} {X : ι → Cx} {O : κ → Ob} {a b : Expr} {fa fb : DE} {pos p1 p2 p3 p4 : Pos}
theorem s_aug (n : Nat) {x : Str} {px : Pos} (ha : E3 K X O a fa) (hN : ∀ i, (X i).N.Nodup := by intro i; exact of_decide_eq_true (by kernel_rfl)) (hi : ∀ i, (X i).N[n]? = some x := by intro i; rfl) (hx : ∀ i, Loc (X i).env.scope x := by intro i; first | exact Or.inl rfl | exact Or.inr rfl)
   (hf : ∀ i, (X i).fn x = true ∨ (X i).env.scope.names.lookup x = some .local := by intro i; first | exact .inl rfl | exact .inr rfl) : S3 K X O (.AugAssign (.Name x px) .Add a pos) (augS n fa) :=
 let ⟨_, q, d⟩ := ha; ⟨_, fun i => ps_aug (hN i) (hi i) (hx i) (q i) ip_add (hf i), fun j => sd_aug (d j)⟩
theorem e_listrev (C : Ctx3 P w K mg base k X) (B : Blt mg) (ha : E3 K X O a fa) (gl : ∀ i, Gl (X i) "list" := by intro i; rfl) (gr : ∀ i, Gl (X i) "reversed" := by intro i; rfl)
   (s1 : ∀ i, starEach [.Call (.Name "reversed" p2) [a] [] p3] (X i).env = (false, eval (.Call (.Name "reversed" p2) [a] [] p3) (X i).env) :: starEach [] (X i).env := by intro i; rfl) (s2 : ∀ i, starEach [a] (X i).env = (false, eval a (X i).env) :: starEach [] (X i).env := by intro i; rfl) :
   E3 K X O (.Call (.Name "list" p1) [.Call (.Name "reversed" p2) [a] [] p3] [] p4) (lrvD fa) :=
 let ⟨_, q, d⟩ := ha; ⟨tLR K _, fun i => by
   have h := pe_listrev (p1 := p1) (p2 := p2) (p3 := p3) (p4 := p4) (C.room i).hd (gl i) (by rw [C.hmg]; exact B.list) (gr i) (by rw [C.hmg]; exact B.reversed) (q i) (s1 i) (s2 i)
   rw [C.hK] at h
   exact h, fun j => ed_listrev (d j)⟩
end
end L3
namespace HK
open PySem PySem.Spec PyProof.Rows
mutual
def hk : PyData → Bool
 | .int _ => true
 | .str _ => true
 | .tuple ds => hks ds
 | _ => false
def hks : List PyData → Bool
 | [] => true
 | d :: ds => hk d && hks ds
end
mutual
def hD (w : World) : PyData → Int
 | .int i => hashInt i
 | .str x => hashStr w x
 | .tuple ds => reduceHash (Builtin.Tuple.tupleHashOf (hDs w ds))
 | _ => 0
def hDs (w : World) : List PyData → List Int
 | [] => []
 | d :: ds => hD w d :: hDs w ds
end
mutual
def bv : PyData → Bool
 | .int _ => true
 | .tuple ds => bvs ds
 | _ => false
def bvs : List PyData → Bool
 | [] => true
 | d :: ds => bv d && bvs ds
end
mutual
def dr : PyData → Nat
 | .tuple ds => drs ds + 1
 | _ => 1
def drs : List PyData → Nat
 | [] => 0
 | d :: ds => dr d + drs ds
end
end HK
namespace HK
open PySem PySem.Spec PyProof.Rows PySem.W
mutual
def dlt : PyData → PyData → Bool
 | .int i, .int j => decide (i < j)
 | .str x, .str y => decide (x.cps.toList < y.cps.toList)
 | .tuple xs, .tuple ys => dlts xs ys
 | _, _ => false
def dlts : List PyData → List PyData → Bool
 | [], [] => false
 | [], _ :: _ => true
 | _ :: _, [] => false
 | x :: xs, y :: ys => if PyData.eqv x y then dlts xs ys else dlt x y
end
end HK
namespace HK
open PySem PySem.Spec PyProof.Rows SX L6
section
variable {prog : Program} {w : World} {A : Around} {E : Value → Shared → Prop} {s : Shared}
abbrev sortH (h : Heap) (a : Addr) (vs : List Value) : Heap := ((h.update a (Obj.mapSeq fun _ => #[])).push (seqObj "tuple" vs.toArray 0)).push (seqObj "list" #[] 0)
theorem sort_keys {α : Type} {blt : α → α → Bool} {k : Nat → α} {a : Addr} {vs : List Value} {n : Nat} {P : PySem.Fin → Shared → Prop} (ho : s.heap.get? a = some (seqObj "list" vs.toArray n)) (h64 : vs.length < 64) (K : KeysOk prog w A { s with heap := sortH s.heap a vs } vs vs blt k)
   (h : ∀ ix, Ord blt k vs.length ix → P (.done (.ret .none)) { s with heap := sortedHeap s.heap a vs (pickV vs ix).toArray }) : wpAny (model prog w) A (Builtin.«list.sort» ⟨[.ref a], []⟩) P E s := by
 rw [list_sort_plain]
 have ha : a < s.heap.objs.size := Heap.lt_size ho
 refine wpAny_bind (listItems_at ho rfl ?_)
 refine wpAny_bind (listUpdate_at ho rfl ?_)
 obtain ⟨e1, ho1⟩ : ∃ e1, (s.heap.update a (Obj.mapSeq fun _ => #[])).get? a = some (seqObj "list" #[] e1) := ⟨_, get?_update_seq ho (fun _ => #[])⟩
 refine wpAny_bind (seqEpoch_at ho1 rfl ?_)
 refine wpAny_bind (wpAny_newTuple ?_)
 refine wpAny_bind (wpAny_newList ?_)
 refine wpAny_holding ?_
 have ho6 : (sortH s.heap a vs).get? a = some (seqObj "list" #[] e1) := by
   rw [Heap.get?_push_ne _ _ _ (by rw [size_push', Heap.size_update]; exact Nat.ne_of_lt (Nat.lt_succ_of_lt ha)), Heap.get?_push_ne _ _ _ (by rw [Heap.size_update]; exact Nat.ne_of_lt ha)]
   exact ho1
 show wpAny (model prog w) A _ P E { s with heap := sortH s.heap a vs }
 dsimp only
 have hz : (vs.toArray.zip vs.toArray).size = vs.length := by simp
 have fin : ∀ (st' : SortSt) ix, (arrOf st').size = vs.length → (∀ i, i < vs.length → (arrOf st')[i]? = (vs.toArray.zip vs.toArray)[ix i]?) → failedOf st' = none → Ord blt k vs.length ix →
     wpAny (model prog w) A (do
       let touched := (← seqEpoch a) != e1
       Builtin.List.listUpdate (.ref a) fun _ => (arrOf st').map (·.2)
       if let some e := failedOf st' then rule "list.sort.comparison-raised"; throw e
       if touched then rule "list.sort.modified"; raiseError "ValueError" "list modified during sort"
       ret .none) P E { s with heap := sortH s.heap a vs } := fun st' ix z1 z2 z3 o => by
   have ep := pick_at rfl o.bj z1 z2
   refine wpAny_bind (seqEpoch_at ho6 rfl ?_)
   refine wpAny_bind (listUpdate_at ho6 rfl ?_ (hsz2 := by
     rw [sizeLine_eq, ep]
     simp [pickV]
     omega))
   rw [z3]
   simp only [bne_self_eq_false, Bool.false_eq_true, if_false]
   rw [ep]
   exact wpAny_pure (h ix o)
 by_cases h2 : vs.toArray.size < 2
 · rw [if_pos h2, if_pos h2]
   refine wpAny_bind (wpAny_pure ?_)
   rw [StateT.run_pure]
   refine wpAny_bind (wpAny_pure ?_)
   have h2' : vs.length < 2 := by simpa using h2
   exact fin (SortSt.mk' general' (vs.toArray.zip vs.toArray) #[] 7 none) (fun i => i) hz (fun i _ => rfl) rfl ⟨Bij.idf, fun i j z1 z2 => by omega⟩
 · rw [if_neg h2, if_neg h2]
   have h2' : 2 ≤ vs.length := by simpa using h2
   obtain ⟨kd, kk, cm⟩ := K.kd h2'
   refine wpAny_bind (kk _ _ ?_)
   refine wpAny_bind (wpAny_mono (runs_st (kd := kd) (st := SortSt.mk' kd (vs.toArray.zip vs.toArray) #[] 7 none) (Q := fun _ st' => ∃ ix, (arrOf st').size = vs.length ∧ (∀ i, i < vs.length → (arrOf st')[i]? = (vs.toArray.zip vs.toArray)[ix i]?) ∧ failedOf st' = none ∧ Ord blt k vs.length ix)
     K.wo cm ⟨rfl, fun i _ => rfl, Bij.idf, rfl, rfl, rfl⟩ (by omega) (by omega) fun ix st' z1 z2 z3 z4 z5 => ?_) ?_ fun _ _ e => e)
   · rw [hz] at z1 z2 z3 z5
     exact ⟨ix, z1, z2, z4, z3, z5⟩
   · rintro ⟨⟨⟩, st'⟩ s' ⟨rfl, ix, z1, z2, z3, z4⟩
     exact fin st' ix z1 z2 z3 z4
end
end HK
namespace L3
open PySem PySem.Spec
open PyProof.Rows hiding St
open L2
mutual
def solL : PyData → Bool
 | .none => true
 | .int _ => true
 | .str _ => true
 | .tuple ds => solLs ds
 | .list ds => solLs ds
 | _ => false
def solLs : List PyData → Bool
 | [] => true
 | d :: ds => solL d && solLs ds
end
end L3
namespace L3
open PySem PySem.Spec
open PyProof.Rows hiding St
open L2
section
variable {ι κ : Type} {P : Program} {w : World} {K : PySem.W.Frag} {mg : Str → Option Value} {base : Heap} {k : Nat} {X : ι → Cx} {O : κ → Ob} {a b c : Expr} {fa fb fc : DE} {pos p : Pos}
theorem e_chM (ha : E3 K X O a fa) (hb : E3 K X O b fb) (hc : E3 K X O c fc) (hm : lastMarks [.LtE, .Lt] [b, c] = false := by with_unfolding_all rfl) : E3 K X O (.Compare a [.LtE, .Lt] [b, c] pos) (chD (fn2 (intF fun i j => .bool (decide (i ≤ j)))) (fn2 (intF fun i j => .bool (decide (i < j)))) fa fb fc) :=
 e_chain (fun i => op_le) (fun i => op_lt) (fun _ => opd_le) (fun _ => opd_lt) ha hb hc hm
end
def thereF : List PyData → (R → Prop) → Prop := fun ds Q => ∃ i n : Int, ds = [.int i, .int n] ∧ Q (.o (.bool (decide (0 ≤ i) && decide (i < n))))
end L3
namespace L3
open PySem PySem.Spec
open PyProof.Rows hiding St
open L2
theorem iteB {b : Bool} {A B : Prop} (ht : b = true → A) (hf : b = false → B) : if b = true then A else B := by
 cases b with
 | true => exact iteT (ht rfl)
 | false => exact iteF (hf rfl)
theorem eqI {i j : Int} : eqF false (.int i) (.int j) = some (.o (.bool (decide (i = j)))) := by rw [eqF_int, if_neg Bool.false_ne_true]
theorem neI {i j : Int} : eqF true (.int i) (.int j) = some (.o (.bool (!decide (i = j)))) := by rw [eqF_int, if_pos rfl]
theorem dr {m : Int} {P : Int → Prop} (h0 : 0 < m) (h1 : m < 1073741824) (q : ∀ k : Nat, (k : Int) < m → P (k : Int)) : 0 < m ∧ m < 1073741824 ∧ ∀ k : Int, 0 ≤ k → k < m → P k :=
 ⟨h0, h1, fun k k0 k1 => by obtain ⟨n, rfl⟩ := Int.eq_ofNat_of_zero_le k0; exact q n k1⟩
end L3
namespace HK
open PySem PySem.Spec PyProof.Rows PySem.SetTable SX
noncomputable instance : DecidableEq PyData := fun a b => Classical.propDecidable (a = b)
end HK
namespace L3
open PySem PySem.Spec
open PyProof.Rows hiding St
open L2
def ArgV (K : PySem.W.Frag) (O : Ob) (H : Hp) (v : V) (r : DV) : Prop := (∃ d, r = .im d ∧ Is K (unM O) H v d) ∨ (∃ f ds, r = .rd f ds ∧ SeenV K O H v (.rd f ds)) ∨ (r = .ob ∧ v = O.v) ∨ ∃ T, r = .thr T ∧ SeenV K O H v (.thr T)
def Args (K : PySem.W.Frag) (O : Ob) (H : Hp) : List V → List DV → Prop
 | [], [] => True
 | v :: vs, r :: rs => ArgV K O H v r ∧ Args K O H vs rs
 | _, _ => False
theorem Args.length {K : PySem.W.Frag} {O : Ob} {H : Hp} : ∀ {vs : List V} {rs : List DV}, Args K O H vs rs → vs.length = rs.length
 | [], [], _ => rfl
 | _ :: _, _ :: _, h => by rw [List.length_cons, List.length_cons, Args.length h.2]
theorem Args.get {K : PySem.W.Frag} {O : Ob} {H : Hp} : ∀ {vs : List V} {rs : List DV} {i : Nat} {r : DV}, Args K O H vs rs → rs[i]? = some r → ∃ v, vs[i]? = some v ∧ ArgV K O H v r
 | [], [], _, _, _, e => by simp at e
 | [], _ :: _, _, _, h, _ => h.elim
 | _ :: _, [], _, _, h, _ => h.elim
 | _ :: _, _ :: _, 0, _, h, e => by cases e; exact ⟨_, rfl, h.1⟩
 | _ :: _, _ :: _, i + 1, _, h, e => by
   obtain ⟨v, h1, h2⟩ := Args.get (i := i) h.2 (by simpa using e)
   exact ⟨v, by simpa using h1, h2⟩
def spG (K : PySem.W.Frag) (φ : Ob → Prop) (n : Nat) (f : List DV → (R → Prop) → Prop) : Sp := fun vs H Q _ =>
 ∃ (O : Ob) (rs : List DV) (Qr : R → Prop), O.Ok ∧ φ O ∧ O.P H ∧ rs.length = n ∧ Args K O H vs rs ∧ f rs Qr ∧ ∀ r, Qr r → ∀ v H', Stp O H H' → Out K O H H' v r → Q v H'
theorem spG_len {K : PySem.W.Frag} {φ : Ob → Prop} {n : Nat} {f : List DV → (R → Prop) → Prop} {ps : List Str} (hn : ps.length = n) : ∀ vs H Q E, spG K φ n f vs H Q E → vs.length = ps.length := fun vs H Q E zz => by obtain ⟨O, rs, _, _, _, _, h, is, _⟩ := zz; rw [is.length, h, hn]
abbrev DGA := DSt → (List DV → Prop) → Prop
def AG (K : PySem.W.Frag) (O : Ob) (t : TA) (f : DGA) : Prop :=
 ∀ (σ : St) (H : Hp) (ρ : DSt) (Q : List V → Hp → Prop) (Qd : List DV → Prop), Seen K O H σ ρ → f ρ Qd → (∀ vs H' rs, Stp O H H' → Args K O H' vs rs → Qd rs → Q vs H') → t σ H Q
def gNilA : DGA := fun _ Q => Q []
def gImA (f : DE) (g : DGA) : DGA := fun ρ Q => f ρ fun r => g ρ fun rs => Q (.im r.d :: rs)
section
variable {K : PySem.W.Frag} {O : Ob}
theorem ag_nil : AG K O tNil gNilA := fun σ H ρ Q Qd S h k => k [] H [] (.refl _ _) trivial h
theorem ag_im {t : TE} {u : TA} {f : DE} {g : DGA} (h : ED K O t f) (h' : AG K O u g) : AG K O (tCons t u) (gImA f g) := fun σ H ρ Q Qd S hf k => by
 refine h σ H ρ _ _ S hf fun v H1 r s1 o1 q1 => ?_
 refine h' σ H1 ρ _ _ (S.stp s1) q1 fun vs H2 rs s2 a2 q2 => ?_
 exact k (v :: vs) H2 (.im r.d :: rs) (s1.trans s2) ⟨.inl ⟨r.d, rfl, Is.stp s2 (fun _ f => f) (fun _ f => f) (o1.is S.ok S.p)⟩, a2⟩ q2
def calG (n : Nat) (f : List DV → (R → Prop) → Prop) (g : DGA) : DE := fun ρ Q => g ρ fun rs => rs.length = n ∧ f rs Q
theorem ed_callG {φ : Ob → Prop} {n : Nat} {f : List DV → (R → Prop) → Prop} {E : XK} {t : TA} {g : DGA} (hφ : φ O) (h : AG K O t g) : ED K O (tCall (spG K φ n f) [] E t) (calG n f g) := fun σ H ρ Q Qd S q k => by
 refine h σ H ρ _ _ S q fun vs H1 rs s1 is ⟨hn, q1⟩ => ?_
 rw [List.append_nil]
 exact ⟨O, rs, Qd, S.ok, hφ, s1.p S.p, hn, is, q1, fun r qr v H' s2 o2 => k v H' r (s1.trans s2) (o2.ahead S.ok S.p s1) qr⟩
theorem rep_startG {N : List Str} {H : Hp} {vs : List V} {rs : List DV} (ok : O.Ok) (p : O.P H) (h : Args K O H vs rs) : Rep K O H (fun _ _ => False) H (L2.start N vs) (dstart N rs) := by
 have hl := h.length
 refine ⟨ok, p, p, .refl _ _, fun _ _ _ z => z.elim, fun _ _ z => z.elim, fun i r e => ?_, ?_⟩
 · unfold dstart at e
   by_cases hi : i < rs.length
   · rw [List.getElem?_append_left (by simpa using hi), List.getElem?_map] at e
     cases q : rs[i]? with
     | none => rw [q] at e; cases e
     | some r' =>
       rw [q] at e
       have e' : r' = r := Option.some.inj (Option.some.inj e)
       subst e'
       obtain ⟨v, hv, hh⟩ := h.get q
       refine ⟨v, ?_, ?_⟩
       · unfold L2.start
         rw [List.getElem?_append_left (by rw [List.length_map, hl]; exact hi), List.getElem?_map, hv]
         rfl
       · rcases hh with ⟨d, rfl, hd⟩ | ⟨f, ds, rfl, a, xs, e1, nm, q1, z⟩ | ⟨rfl, hd⟩ | ⟨T, rfl, W, hw, z⟩
         · exact hd.weak fun a u => ⟨u, fun j z => z⟩
         · exact ⟨a, xs, e1, ⟨nm, fun _ z => z⟩, q1, z.weak fun a u => ⟨u, fun j z => z⟩⟩
         · exact hd
         · exact ⟨W, fun b w => ⟨⟨(hw b w).1, fun _ z => z⟩, (hw b w).2⟩, T.to (fun b u f q => ⟨⟨f, fun _ z => z⟩, q⟩) (fun b u w q => ⟨w, q⟩) (TupStay.refl _) z⟩
   · rw [List.getElem?_append_right (by simpa using hi), List.getElem?_replicate] at e
     split at e <;> cases e
 · unfold dstart L2.start
   rw [List.length_append, List.length_append, List.length_map, List.length_map, List.length_replicate, List.length_replicate, hl]
theorem run_G {N : List Str} {t : TS} {g : DS} {H : Hp} {vs : List V} {rs : List DV} {Q : VK} {Qr : R → Prop} (h : SD K O t g) (ok : O.Ok) (p : O.P H) (ia : Args K O H vs rs)
   (hg : g { nx := fun _ => Qr (.o .none), rt := Qr } (dstart N rs)) (hQ : ∀ r, Qr r → ∀ v H', Stp O H H' → Out K O H H' v r → Q v H') : t { nx := fun _ H' => Q .non H', rt := Q } (L2.start N vs) H :=
 h H _ _ H _ _ _ (rep_startG ok p ia) hg ⟨fun A' σ' H' ρ' r' _ q => hQ _ q .non H' r'.st Is.none, fun A' σ' H' ρ' r' _ q => q.elim, fun A' σ' H' ρ' r' _ q => q.elim, fun H' v r s o q => hQ r q v H' s o⟩
end
def AG3 {ι κ : Type} (K : PySem.W.Frag) (X : ι → Cx) (O : κ → Ob) (es : List Expr) (f : DGA) : Prop := ∃ t, (∀ i, PA (X i) es t) ∧ ∀ j, AG K (O j) t f
section
variable {ι κ : Type} {P : Program} {w : World} {K : PySem.W.Frag} {mg : Str → Option Value} {base : Heap} {k : Nat} {X : ι → Cx} {O : κ → Ob} {a : Expr} {es : List Expr} {fa : DE} {ga : DGA} {pos p : Pos}
theorem g_nil : AG3 K X O [] gNilA := ⟨tNil, fun i => pa_nil, fun j => ag_nil⟩
theorem g_im (ha : E3 K X O a fa) (hs : AG3 K X O es ga) (he : ∀ i, starEach (a :: es) (X i).env = (false, eval a (X i).env) :: starEach es (X i).env := by intro i; rfl) : AG3 K X O (a :: es) (gImA fa ga) := let ⟨_, p1, d1⟩ := ha; let ⟨_, p2, d2⟩ := hs; ⟨_, fun i => pa_cons (p1 i) (p2 i) (he i), fun j => ag_im (d1 j) (d2 j)⟩
theorem e_callG {k' n : Nat} {x : Str} {ps : List Str} {φ : Ob → Prop} {F : List DV → (R → Prop) → Prop} (C : Ctx3 P w K mg base k X) (D : Def3 P w K mg base k' x ps (spG K φ n F)) (hφ : ∀ j, φ (O j)) (ha : AG3 K X O (a :: es) ga) (hk : k' ≤ k := by decide) (hg : ∀ i, Gl (X i) x := by intro i; rfl)
   (hdb : (x == ("__debug__" : Str)) = false := by decide) (he : ∀ i, starEach (a :: es) (X i).env = (false, eval a (X i).env) :: starEach es (X i).env := by intro i; rfl) (hpl : ∀ i, (backTo pos (starEach es (X i).env)).any (·.1) = false := by intro i; rfl) : E3 K X O (.Call (.Name x p) (a :: es) [] pos) (calG n F ga) := by
 obtain ⟨f, fd, G, m, kp, bn⟩ := D.ex
 obtain ⟨t, q, d⟩ := ha
 refine ⟨tCall (spG K φ n F) [] E0 t, fun i => ?_, fun j => ed_callG (hφ j) (d j)⟩
 have G' : FnOk (X i).prog (X i).w (X i).K (X i).mg (X i).base CX0 k f fd ps (spG K φ n F) := by rw [C.hP, C.hw, C.hK, C.hmg, C.hb]; exact G.mono hk
 exact pe_call G' (C.room i) (hg i) (by rw [C.hmg]; exact m) (by rw [C.hK]; exact kp) (by rw [C.hK]; exact bn) .nil pass0 (q i) hdb (he i) (hpl i)
end
section
variable {P : Program} {w : World} {K : PySem.W.Frag} {mg : Str → Option Value} {base : Heap} {k n : Nat} {x : Str} {st : Stmt} {N ps : List Str} {φ : Ob → Prop} {F : List DV → (R → Prop) → Prop}
theorem mk_G (T : Top3 K mg x st) (S : FnScope N ps (defScope st)) (hb : ∀ (kV doc pm : Value) (an : Option Addr) (cdv ct : Value) (us : List Value), us.length = ps.length → bindArgs (PySem.W.fnOf x x (defArgs st) (defBody st) (defScope st) .none kV doc pm an cdv ct) ⟨us, []⟩ = pure (ps.zip us)) (hn : ps.length = n)
   (body : ∀ (f : Addr) (cdv : Value) (A : Around) (outer : List Env) (s : Shared) (H : Hp) (E : XK) (O : Ob), φ O → Ctx3 P w K mg base k (bodyX P w K mg base N x (defScope st) f cdv A outer s H E) →
     ∃ g, Ss3 K (bodyX P w K mg base N x (defScope st) f cdv A outer s H E) (fun _ : Unit => O) (defBody st) g ∧ ∀ rs Qr, rs.length = n → F rs Qr → g { nx := fun _ => Qr (.o .none), rt := Qr } (dstart N rs)) : Def3 P w K mg base (k + 1) x ps (spG K φ n F) := by
 obtain ⟨f, fd, Fu, m⟩ := T.ex
 refine ⟨f, fd, Fu.ok S (spG_len hn) (fun cdv A outer s H vs Q E hr h => ?_), m, Fu.kp, Fu.binds hb⟩
 obtain ⟨O, rs, Qr, ok, hφ, p, hl, is, q, kk⟩ := h
 obtain ⟨g, ⟨t, h1, h2⟩, h3⟩ := body f cdv A outer s H E O hφ (ctx_body hr)
 exact ⟨t, h1 (), run_G (h2 ()) ok p is (h3 rs Qr hl q) kk⟩
end
end L3
namespace L3
open PySem PySem.Spec
open PyProof.Rows hiding St
open L2
def thB (i n : Int) : Bool := decide (0 ≤ i) && decide (i < n)
end L3
namespace L3
open PySem PySem.Spec
open PyProof.Rows hiding St
open L2
inductive GThg where
 | nm (i : Int)
 | lt (w : List Nat)
def encTh : GThg → PyData
 | .nm i => .int i
 | .lt w => .str (tx w)
structure RuG where
 n : Int
 b : List GThg
def encRg (r : RuG) : PyData := .tuple [.int r.n, .tuple (r.b.map encTh)]
structure GraZ where
 n : Int
 rs : List RuG
def encGz (g : GraZ) : PyData := .tuple [.int g.n, .tuple (g.rs.map encRg)]
def GThg.isN : GThg → Bool
 | .nm _ => true
 | .lt _ => false
theorem flat_th (t : GThg) : flat (encTh t) = true := by cases t <;> rfl
theorem flat_rg (r : RuG) : flat (encRg r) = true := by
 show (true && (flats (r.b.map encTh) && true)) = true
 rw [flats_map flat_th]; rfl
theorem flat_gz (g : GraZ) : flat (encGz g) = true := by
 show (true && (flats (g.rs.map encRg) && true)) = true
 rw [flats_map flat_rg]; rfl
def namesInF : List PyData → (R → Prop) → Prop := fun ds Q => ∃ b : List GThg, ds = [.tuple (b.map encTh)] ∧ b.length ≤ 1000 ∧ Q (.n ((b.filter GThg.isN).map encTh))
def ThGood (ls : List Nat) (n : Nat) : GThg → Prop
 | .nm i => 0 ≤ i ∧ i < n
 | .lt w => ∃ c ∈ ls, w = [c]
def grammarF (m : Nat) : List PyData → (R → Prop) → Prop := fun ds Q => ∃ ls : List Nat, ds = [.list (ls.map fun c => .str (sg c))] ∧ 1 ≤ ls.length ∧ ls.length ≤ 26 ∧ (∀ c ∈ ls, isLow c) ∧
 ∀ g : GraZ, 1 ≤ g.n → g.n ≤ 3 → g.rs.length < m → (∀ r ∈ g.rs, 0 ≤ r.n ∧ r.n < g.n ∧ r.b.length ≤ 3 ∧ (r.b.filter GThg.isN).length ≤ 2 ∧ ∀ t ∈ r.b, ThGood ls g.n.toNat t) → Q (.o (encGz g))
end L3
namespace L3
open PySem PySem.Spec
open PyProof.Rows hiding St
open L2
def nodeD (a : Int) (ks : List PyData) : PyData := .tuple [.int a, .tuple ks]
inductive Odd : PyData → Prop
 | nil : Odd (.tuple [])
 | one {x : PyData} : Odd (.tuple [x])
 | three {x y z : PyData} : Odd (.tuple [x, y, z])
 | tup {x : List PyData} {y : PyData} : Odd (.tuple [.tuple x, y])
 | num {a b : Int} : Odd (.tuple [.int a, .int b])
def Lk : Nat → PyData → Prop
 | 0, _ => False
 | n + 1, d => (∃ a ks, d = nodeD a ks ∧ ks.length ≤ 3 ∧ ∀ k ∈ ks, Lk n k) ∨ (Odd d ∧ flat d = true)
theorem Lk.up : ∀ {n : Nat} {d : PyData}, Lk n d → Lk (n + 1) d
 | 0, _, h => h.elim
 | n + 1, d, h => by
   rcases h with ⟨a, ks, e, l, hk⟩ | h
   · exact .inl ⟨a, ks, e, l, fun k m => (hk k m).up⟩
   · exact .inr h
theorem flats_all : ∀ {ds : List PyData}, (∀ d ∈ ds, flat d = true) → flats ds = true
 | [], _ => rfl
 | d :: ds, h => by
   show (flat d && flats ds) = true
   rw [h d (by simp), flats_all fun x hx => h x (List.mem_cons_of_mem _ hx)]; rfl
theorem flat_node {a : Int} {ks : List PyData} (h : ∀ k ∈ ks, flat k = true) : flat (nodeD a ks) = true := by
 show (true && (flats ks && true)) = true
 rw [flats_all h]; rfl
theorem Lk.flat : ∀ {n : Nat} {d : PyData}, Lk n d → L3.flat d = true
 | 0, _, h => h.elim
 | n + 1, d, h => by
   rcases h with ⟨a, ks, rfl, l, hk⟩ | h
   · exact flat_node fun k m => (hk k m).flat
   · exact h.2
def GraZ.at_ (g : GraZ) (a : Int) : RuG := g.rs.getD a.toNat ⟨0, []⟩
def nmI : GThg → Int
 | .nm i => i
 | .lt _ => 0
def nms (b : List GThg) : List Int := (b.filter GThg.isN).map nmI
theorem nms_enc (b : List GThg) : (b.filter GThg.isN).map encTh = (nms b).map .int := by
 unfold nms
 rw [List.map_map]
 refine List.map_congr_left fun t ht => ?_
 cases t with
 | nm i => rfl
 | lt w => exact absurd (List.mem_filter.mp ht).2 (fun z => by cases z)
theorem at_get_g {g : GraZ} {a : Int} (h : thB a g.rs.length = true) : g.rs[a.toNat]? = some (g.at_ a) ∧ g.at_ a ∈ g.rs ∧ 0 ≤ a ∧ a.toNat < g.rs.length := by
 unfold thB at h
 simp only [Bool.and_eq_true, decide_eq_true_eq] at h
 have l : a.toNat < g.rs.length := by omega
 have e : g.rs[a.toNat]? = some (g.at_ a) := by
   unfold GraZ.at_
   rw [List.getD_eq_getElem?_getD, List.getElem?_eq_getElem l]; rfl
 exact ⟨e, List.mem_of_getElem? e, h.1, l⟩
def GraZ.isT (g : GraZ) : Nat → Int → PyData → Bool
 | 0, _, _ => false
 | n + 1, x, .tuple [.int a, .tuple ks] => thB a g.rs.length && (decide ((g.at_ a).n = x) && (decide ((nms (g.at_ a).b).length = ks.length) && ((nms (g.at_ a).b).zip ks).all fun p => g.isT n p.1 p.2))
 | _ + 1, _, _ => false
theorem isT_node (g : GraZ) (n : Nat) (x a : Int) (ks : List PyData) : g.isT (n + 1) x (nodeD a ks) = (thB a g.rs.length && (decide ((g.at_ a).n = x) && (decide ((nms (g.at_ a).b).length = ks.length) && ((nms (g.at_ a).b).zip ks).all fun p => g.isT n p.1 p.2))) := rfl
theorem isT_odd {g : GraZ} {n : Nat} {x : Int} {d : PyData} (h : Odd d) : g.isT (n + 1) x d = false := by
 cases h <;> (rw [GraZ.isT] <;> simp)
theorem all_zip {α β : Type} {f g : α × β → Bool} {xs : List α} {ys : List β} (h : ∀ x, ∀ y ∈ ys, f (x, y) = g (x, y)) : (xs.zip ys).all f = (xs.zip ys).all g := by
 induction xs generalizing ys with
 | nil => rfl
 | cons x xs ih =>
   cases ys with
   | nil => rfl
   | cons y ys =>
     rw [List.zip_cons_cons, List.all_cons, List.all_cons, h x y (by simp), ih fun a b hb => h a b (List.mem_cons_of_mem _ hb)]
theorem isT_up {g : GraZ} : ∀ {n : Nat} {d : PyData} {x : Int}, Lk n d → g.isT (n + 1) x d = g.isT n x d
 | 0, _, _, h => h.elim
 | n + 1, d, x, h => by
   rcases h with ⟨a, ks, rfl, l, hk⟩ | h
   · rw [isT_node, isT_node, all_zip (f := fun p => g.isT (n + 1) p.1 p.2) (g := fun p => g.isT n p.1 p.2) (fun y k hm => isT_up (n := n) (d := k) (x := y) (hk k hm))]
   · rw [isT_odd h.1, isT_odd h.1]
def cntT : Nat → PyData → Nat
 | 0, _ => 0
 | n + 1, .tuple [.int _, .tuple ks] => 1 + (ks.map (cntT n)).sum
 | _ + 1, _ => 1
theorem cntT_node (n : Nat) (a : Int) (ks : List PyData) : cntT (n + 1) (nodeD a ks) = 1 + (ks.map (cntT n)).sum := rfl
theorem cntT_odd {n : Nat} {d : PyData} (h : Odd d) : cntT (n + 1) d = 1 := by
 cases h <;> (rw [cntT] <;> simp)
theorem sumT_congr {α : Type} {f g : α → Nat} {l : List α} (h : ∀ x ∈ l, f x = g x) : (l.map f).sum = (l.map g).sum := by
 rw [List.map_congr_left h]
theorem cntT_up : ∀ {n : Nat} {d : PyData}, Lk n d → cntT (n + 1) d = cntT n d
 | 0, _, h => h.elim
 | n + 1, d, h => by
   rcases h with ⟨a, ks, rfl, l, hk⟩ | h
   · rw [cntT_node, cntT_node, sumT_congr fun k hm => cntT_up (hk k hm)]
   · rw [cntT_odd h.1, cntT_odd h.1]
theorem sumT_le {α : Type} {f : α → Nat} {b : Nat} : ∀ {l : List α}, (∀ x ∈ l, f x ≤ b) → (l.map f).sum ≤ l.length * b
 | [], _ => by simp
 | x :: l, h => by
   have h1 := h x (by simp)
   have h2 := sumT_le (l := l) fun y hy => h y (List.mem_cons_of_mem _ hy)
   rw [List.map_cons, List.sum_cons, List.length_cons, Nat.add_mul]; omega
theorem cntT_le : ∀ {n : Nat} {d : PyData}, Lk n d → cntT n d ≤ 4 ^ n
 | 0, _, h => h.elim
 | n + 1, d, h => by
   have p : 0 < 4 ^ n := Nat.pow_pos (by decide)
   rcases h with ⟨a, ks, rfl, l, hk⟩ | h
   · rw [cntT_node]
     have h1 := sumT_le (l := ks) (f := cntT n) (b := 4 ^ n) fun k hm => cntT_le (hk k hm)
     have h2 := Nat.mul_le_mul_right (4 ^ n) l
     rw [Nat.pow_succ]; omega
   · rw [cntT_odd h.1, Nat.pow_succ]; omega
theorem cntT_pos : ∀ {n : Nat} {d : PyData}, Lk n d → 1 ≤ cntT n d
 | 0, _, h => h.elim
 | n + 1, d, h => by
   rcases h with ⟨a, ks, rfl, l, hk⟩ | h
   · rw [cntT_node]; omega
   · rw [cntT_odd h.1]; omega
def Gd (g : GraZ) : Nat → PyData → Prop
 | 0, _ => False
 | n + 1, d => ∃ a ks, d = nodeD a ks ∧ ks.length ≤ 3 ∧ thB a g.rs.length = true ∧ (nms (g.at_ a).b).length = ks.length ∧ ∀ k ∈ ks, Gd g n k
theorem Gd.up {g : GraZ} : ∀ {n : Nat} {d : PyData}, Gd g n d → Gd g (n + 1) d
 | 0, _, h => h.elim
 | n + 1, d, h => by
   obtain ⟨a, ks, e, l, h1, h2, hk⟩ := h
   exact ⟨a, ks, e, l, h1, h2, fun k m => (hk k m).up⟩
theorem Gd.lk {g : GraZ} : ∀ {n : Nat} {d : PyData}, Gd g n d → Lk n d
 | 0, _, h => h.elim
 | n + 1, d, h => by
   obtain ⟨a, ks, e, l, h1, h2, hk⟩ := h
   exact .inl ⟨a, ks, e, l, fun k m => (hk k m).lk⟩
theorem gd_of {g : GraZ} : ∀ {n : Nat} {d : PyData} {x : Int}, Lk n d → g.isT n x d = true → Gd g n d
 | 0, _, _, h, _ => h.elim
 | n + 1, d, x, h, t => by
   rcases h with ⟨a, ks, rfl, l, hk⟩ | h
   · rw [isT_node] at t
     simp only [Bool.and_eq_true, decide_eq_true_eq] at t
     obtain ⟨t1, t2, t3, t4⟩ := t
     refine ⟨a, ks, rfl, l, t1, t3, fun k hm => ?_⟩
     obtain ⟨i, hi, rfl⟩ := List.mem_iff_getElem.mp hm
     have hz : ((nms (g.at_ a).b)[i]'(by omega), ks[i]) ∈ (nms (g.at_ a).b).zip ks := by
       refine List.mem_iff_getElem.mpr ⟨i, by rw [List.length_zip]; omega, ?_⟩
       rw [List.getElem_zip]
     exact gd_of (hk _ hm) (List.all_eq_true.mp t4 _ hz)
   · rw [isT_odd h.1] at t; cases t
def wordB : List GThg → List (List Nat) → List Nat
 | [], _ => []
 | .lt w :: b, ks => w ++ wordB b ks
 | .nm _ :: b, k :: ks => k ++ wordB b ks
 | .nm _ :: b, [] => wordB b []
def GraZ.wordT (g : GraZ) : Nat → PyData → List Nat
 | 0, _ => []
 | n + 1, .tuple [.int a, .tuple ks] => wordB (g.at_ a).b (ks.map (g.wordT n))
 | _ + 1, _ => []
theorem wordT_node (g : GraZ) (n : Nat) (a : Int) (ks : List PyData) : g.wordT (n + 1) (nodeD a ks) = wordB (g.at_ a).b (ks.map (g.wordT n)) := rfl
theorem wordT_up {g : GraZ} : ∀ {n : Nat} {d : PyData}, Gd g n d → g.wordT (n + 1) d = g.wordT n d
 | 0, _, h => h.elim
 | n + 1, d, h => by
   obtain ⟨a, ks, rfl, l, h1, h2, hk⟩ := h
   rw [wordT_node, wordT_node, List.map_congr_left fun k hm => wordT_up (hk k hm)]
abbrev Pt := List Nat ⊕ PyData
def encPt : Pt → PyData
 | .inl w => .str (tx w)
 | .inr d => d
def partsB : List GThg → List PyData → List Pt
 | [], _ => []
 | .lt w :: b, ks => .inl w :: partsB b ks
 | .nm _ :: b, k :: ks => .inr k :: partsB b ks
 | .nm _ :: b, [] => partsB b []
def GraZ.wordP (g : GraZ) (n : Nat) : Pt → List Nat
 | .inl w => w
 | .inr d => g.wordT n d
theorem word_parts (g : GraZ) (n : Nat) : ∀ (b : List GThg) (ks : List PyData), (partsB b ks).flatMap (g.wordP n) = wordB b (ks.map (g.wordT n))
 | [], _ => by rw [partsB, wordB]; rfl
 | .lt w :: b, ks => by rw [partsB, wordB, List.flatMap_cons, word_parts]; rfl
 | .nm _ :: b, k :: ks => by rw [partsB, List.map_cons, wordB, List.flatMap_cons, word_parts]; rfl
 | .nm _ :: b, [] => by rw [partsB, List.map_nil, wordB, word_parts]; rfl
theorem mem_parts : ∀ {b : List GThg} {ks : List PyData} {p : Pt}, p ∈ partsB b ks → (∃ w, .lt w ∈ b ∧ p = .inl w) ∨ ∃ k ∈ ks, p = .inr k
 | [], _, p, h => by rw [partsB] at h; cases h
 | .lt w :: b, ks, p, h => by
   rw [partsB] at h
   rcases List.mem_cons.mp h with rfl | h
   · exact .inl ⟨w, by simp, rfl⟩
   · rcases mem_parts h with ⟨v, hv, e⟩ | h
     · exact .inl ⟨v, by simp [hv], e⟩
     · exact .inr h
 | .nm _ :: b, k :: ks, p, h => by
   rw [partsB] at h
   rcases List.mem_cons.mp h with rfl | h
   · exact .inr ⟨k, by simp, rfl⟩
   · rcases mem_parts h with ⟨v, hv, e⟩ | ⟨q, hq, e⟩
     · exact .inl ⟨v, by simp [hv], e⟩
     · exact .inr ⟨q, by simp [hq], e⟩
 | .nm _ :: b, [], p, h => by
   rw [partsB] at h
   rcases mem_parts h with ⟨v, hv, e⟩ | h
   · exact .inl ⟨v, by simp [hv], e⟩
   · exact .inr h
def cost (g : GraZ) (n : Nat) : Pt → Nat
 | .inl _ => 1
 | .inr d => 4 * cntT n d
theorem cost_parts (g : GraZ) (n : Nat) : ∀ (b : List GThg) (ks : List PyData), ((partsB b ks).map (cost g n)).sum ≤ b.length + 4 * (ks.map (cntT n)).sum
 | [], _ => by rw [partsB]; simp
 | .lt w :: b, ks => by
   have := cost_parts g n b ks
   rw [partsB, List.map_cons, List.sum_cons, List.length_cons, show cost g n (.inl w) = 1 from rfl]; omega
 | .nm _ :: b, k :: ks => by
   have := cost_parts g n b ks
   rw [partsB, List.map_cons, List.sum_cons, List.length_cons, List.map_cons, List.sum_cons, show cost g n (.inr k) = 4 * cntT n k from rfl]; omega
 | .nm _ :: b, [] => by
   have := cost_parts g n b []
   rw [partsB, List.length_cons]; omega
end L3
namespace L3
open PySem PySem.Spec
open PyProof.Rows hiding St
open L2
section
variable {prog : Program} {w : World} {A : Around} {E : Value → Shared → Prop} {s : Shared}
theorem nx_item {it t : Addr} {i : Nat} {zs : Array Value} {x : Value} {Q : Value → Shared → Prop} (st : s.heap.IsTupleIter it t i) (tp : s.heap.IsTuple t zs) (hv : zs[i]? = some x) (k : ∀ h', h'.IsTupleIter it t (i + 1) → Heap.SameBut it s.heap h' → Q x { s with heap := h' }) :
   wpAny (model prog w) A (Builtin.SmallTypes.nextOf (.ref it)) Q E s := by
 obtain ⟨o, eo, co, dv⟩ := id st
 obtain ⟨u, eu, _, m, du⟩ := tp
 unfold Builtin.SmallTypes.nextOf; refine wpAny_bind (wpAny_callSpecial?_slot (name := Str.ofString "__next__") st.typeIs F.slot_tuple_iterator_next (wpAny_call_entry F.slot_tuple_iterator_next st.typeIs F.entry_tuple_iterator_next ?_ (F.args_tuple_iterator_next_1 _)))
 refine wpAny_bind (m := field (.ref it) 0) (wpAny_field eo dv (x := .ref t) rfl ?_)
 have ne : ¬ ((Value.ref t == Value.none) = true) := Bool.false_ne_true
 show wpAny _ _ (if (Value.ref t == Value.none) = true then _ else _) _ _ s; rw [if_neg ne]
 refine wpAny_bind (m := field (.ref it) 1) (wpAny_field eo dv (x := .int i 0) rfl ?_)
 refine wpAny_bind (m := seqItems? (.ref t)) (wpAny_seqItems eu du ?_)
 simp only [Int.toNat_natCast, hv]
 refine wpAny_bind (wpAny_setField eo dv (by simp) (wpAny_pure ⟨x, rfl, wpAny_pure (k _ ⟨_, Heap.get?_update_self _ eo (Obj.isFreed_of_fields (Obj.data_mapFields dv _)), (Obj.cls_mapFields ..).trans co, ?_⟩ (Heap.SameBut.update ..))⟩))
 rw [Obj.data_mapFields dv]
 simp [rawInt]
theorem stop_thrown {Q : Fin → Shared → Prop} (hh : A.in1.handled = none) (k : ∀ h' e, (∀ c o, s.heap.get? c = some o → h'.get? c = some o) → (∃ o, h'.get? e = some o ∧ o.cls = .type "StopIteration") → E (.ref e) { s with heap := h' }) :
   wpAny (model prog w) A.in1 (newExc (.type "StopIteration") []) (fun a s' => wpAny (model prog w) A.in1 (raiseNew a) Q E s') E s := by
 simp only [newExc, newTuple]; refine wpAny_bind (wpAny_newObj_type ?_ (by size_fits))
 refine wpAny_bind (m := firstArgMember _ _) (wpAny_of_eq (a := Value.none) (by simp only [firstArgMember]; rfl) (wpAny_newObj_type ?_ (by size_fits)))
 simp only [raiseNew]; refine wpAny_bind (wpAny_handled ?_); rw [hh]
 exact wpAny_bind (wpAny_pure (wpAny_throw (k _ _ (fun c o e => Heap.get?_push_of_some _ (Heap.get?_push_of_some _ e)) ⟨_, Heap.get?_push_size _ rfl, rfl⟩)))
theorem nx_end {it t : Addr} {i : Nat} {zs : Array Value} {Q : Value → Shared → Prop} (hh : A.handled = none) (st : s.heap.IsTupleIter it t i) (tp : s.heap.IsTuple t zs) (hv : zs[i]? = none)
   (k : ∀ h' e, Heap.ExtBut it s.heap h' → (∃ o, h'.get? e = some o ∧ o.cls = .type "StopIteration") → E (.ref e) { s with heap := h' }) : wpAny (model prog w) A (Builtin.SmallTypes.nextOf (.ref it)) Q E s := by
 obtain ⟨o, eo, co, dv⟩ := id st
 obtain ⟨u, eu, _, m, du⟩ := tp
 unfold Builtin.SmallTypes.nextOf; refine wpAny_bind (wpAny_callSpecial?_slot (name := Str.ofString "__next__") st.typeIs F.slot_tuple_iterator_next (wpAny_call_entry F.slot_tuple_iterator_next st.typeIs F.entry_tuple_iterator_next ?_ (F.args_tuple_iterator_next_1 _)))
 refine wpAny_bind (m := field (.ref it) 0) (wpAny_field eo dv (x := .ref t) rfl ?_)
 have ne : ¬ ((Value.ref t == Value.none) = true) := Bool.false_ne_true
 show wpAny _ _ (if (Value.ref t == Value.none) = true then _ else _) _ _ s; rw [if_neg ne]
 refine wpAny_bind (m := field (.ref it) 1) (wpAny_field eo dv (x := .int i 0) rfl ?_)
 refine wpAny_bind (m := seqItems? (.ref t)) (wpAny_seqItems eu du ?_)
 simp only [Int.toNat_natCast, hv]
 refine wpAny_bind (wpAny_rule (wpAny_bind (wpAny_setField eo dv (by simp) ?_)))
 refine wpAny_bind (stop_thrown hh fun h' e up ex => ?_)
 exact k h' e (fun c o' cn q => up c o' ((Heap.SameBut.update ..).extBut c o' cn q)) ex
def SIt : Bool → Heap → Addr → Addr → Nat → Prop
 | true, h, it, l, k => h.IsListIter it l k
 | false, h, it, l, k => h.IsTupleIter it l k
def SSq : Bool → Heap → Addr → Array Value → Prop
 | true, h, l, xs => h.IsList l xs
 | false, h, l, xs => h.IsTuple l xs
theorem SIt.at {b : Bool} {h h' : Heap} {it l : Addr} {k : Nat} (S : SIt b h it l k) (up : ∀ o, h.get? it = some o → h'.get? it = some o) : SIt b h' it l k := by
 cases b
 · exact Heap.IsTupleIter.at S up
 · exact Heap.IsListIter.at S up
theorem SSq.at {b : Bool} {h h' : Heap} {l : Addr} {xs : Array Value} (S : SSq b h l xs) (up : ∀ o, h.get? l = some o → h'.get? l = some o) : SSq b h' l xs := by
 cases b
 · exact Heap.IsTuple.at S up
 · exact Heap.IsList.at S up
theorem SIt.obj {b : Bool} {h : Heap} {it l : Addr} {k : Nat} (S : SIt b h it l k) : ∃ o, h.get? it = some o ∧ o.data = .fields #[.ref l, .int k 0] := by
 cases b
 · obtain ⟨o, e, _, f⟩ := S; exact ⟨o, e, f⟩
 · obtain ⟨o, e, _, f⟩ := S; exact ⟨o, e, f⟩
theorem SSq.obj {b : Bool} {h : Heap} {l : Addr} {xs : Array Value} (S : SSq b h l xs) : ∃ o, h.get? l = some o ∧ True := by
 cases b
 · obtain ⟨o, e, _⟩ := S; exact ⟨o, e, trivial⟩
 · obtain ⟨o, e, _⟩ := S; exact ⟨o, e, trivial⟩
theorem ny_item {b : Bool} {it t : Addr} {i : Nat} {zs : Array Value} {x : Value} {Q : Value → Shared → Prop} (st : SIt b s.heap it t i) (tp : SSq b s.heap t zs) (hv : zs[i]? = some x) (k : ∀ h', SIt b h' it t (i + 1) → Heap.SameBut it s.heap h' → Q x { s with heap := h' }) :
   wpAny (model prog w) A (Builtin.SmallTypes.nextOf (.ref it)) Q E s := by
 cases b
 · exact nx_item st tp hv k
 · exact wpAny_nextOf_list_item st tp hv k
theorem ny_end {b : Bool} {it t : Addr} {i : Nat} {zs : Array Value} {Q : Value → Shared → Prop} (hh : A.handled = none) (st : SIt b s.heap it t i) (tp : SSq b s.heap t zs) (hv : zs[i]? = none)
   (k : ∀ h' e, Heap.ExtBut it s.heap h' → (∃ o, h'.get? e = some o ∧ o.cls = .type "StopIteration") → E (.ref e) { s with heap := h' }) : wpAny (model prog w) A (Builtin.SmallTypes.nextOf (.ref it)) Q E s := by
 cases b
 · exact nx_end hh st tp hv k
 · exact wpAny_nextOf_list_end hh st tp hv k
structure ZS (b1 b2 : Bool) (h : Heap) (z p r i1 i2 l1 l2 : Addr) (k : Nat) (xs ys : Array Value) (out : Value) : Prop where
 zz : IsZip h z p r out
 pp : IsPair h p (.ref i1) (.ref i2)
 rr : ∃ a b, IsPair h r a b
 a1 : SIt b1 h i1 l1 k
 a2 : SIt b2 h i2 l2 k
 t1 : SSq b1 h l1 xs
 t2 : SSq b2 h l2 ys
theorem zs_item {b1 b2 : Bool} {z p r i1 i2 l1 l2 : Addr} {k : Nat} {xs ys : Array Value} {x y : Value} {Q : Value → Shared → Prop} (D : ZipApart z p r i1 i2 l1 l2) (S : ZS b1 b2 s.heap z p r i1 i2 l1 l2 k xs ys .none) (hx : xs[k]? = some x) (hy : ys[k]? = some y)
   (q : ∀ h', ZS b1 b2 h' z p r i1 i2 l1 l2 (k + 1) xs ys (rawInt s.heap.objs.size) → IsPair h' s.heap.objs.size x y → (∀ c o, c ≠ z → c ≠ r → c ≠ i1 → c ≠ i2 → s.heap.get? c = some o → h'.get? c = some o) → Q (.ref s.heap.objs.size) { s with heap := h' }) :
   wpAny (model prog w) A (Builtin.«zip.__next__» ⟨[.ref z], []⟩) (fun fin s' => ∃ v, fin = .done (.ret v) ∧ Q v s') E s := by
 obtain ⟨Z, P, ⟨a, b, R⟩, A1, A2, T1, T2⟩ := S
 refine wpAny_bind (m := field (.ref z) 2) (wpAny_field Z rfl (x := .bool false) rfl ?_)
 refine wpAny_bind (m := field (.ref z) 3) (wpAny_field Z rfl (x := .ref p) rfl (wpAny_bind (wpAny_seqItems P rfl ?_)))
 refine wpAny_bind (m := Builtin.SmallTypes.ownedTupleIsFree (.ref z)) ?_
 unfold Builtin.SmallTypes.ownedTupleIsFree; refine wpAny_bind (wpAny_field Z rfl (x := .none) rfl (wpAny_pure ?_)); simp only [if_true]
 refine wpAny_bind (wpAny_rule (wpAny_bind (wpAny_field Z rfl (x := .ref r) rfl (wpAny_bind (wpAny_setField_rec Z (by simp) fun ha Za sa => ?_)))))
 replace Za : IsZip ha z p r .ellipsis := Za
 refine wpAny_bind ?_; simp only [List.zipIdx_cons, List.zipIdx_nil, List.forIn_cons, List.forIn_nil]
 have A1a := A1.at fun o e => sa.extBut _ o D.i1z e
 have A2a := A2.at fun o e => sa.extBut _ o D.i2z e
 refine wpAny_bind (wpAny_bind (wpAny_onRaise (wpAny_bind (m := Builtin.SmallTypes.nextOf (.ref i1)) (ny_item A1a (T1.at fun o e => sa.extBut _ o D.l1z e) hx fun hb A1b sb => wpAny_pure ?_))))
 have Rb : IsPair hb r a b := sb.extBut _ _ D.TOi1 (sa.extBut _ _ D.TOz R)
 refine wpAny_bind (wpAny_seqItems Rb rfl (wpAny_bind (wpAny_updateSeq_pair Rb fun hc Rc sc => ?_)))
 replace Rc : IsPair hc r x b := Rc
 refine wpAny_bind (wpAny_letGo (wpAny_pure ?_))
 have A2c := (A2a.at fun o e => sb.extBut _ o D.i12.symm e).at fun o e => sc.extBut _ o D.TOi2.symm e
 have T2c := ((T2.at fun o e => sa.extBut _ o D.l2z e).at fun o e => sb.extBut _ o D.l2i1 e).at fun o e => sc.extBut _ o D.l2TO e
 refine wpAny_bind (wpAny_bind (wpAny_onRaise (wpAny_bind (m := Builtin.SmallTypes.nextOf (.ref i2)) (ny_item A2c T2c hy fun hd A2d sd => wpAny_pure ?_))))
 have Rd : IsPair hd r x b := sd.extBut _ _ D.TOi2 Rc
 refine wpAny_bind (wpAny_seqItems Rd rfl (wpAny_bind (wpAny_updateSeq_pair Rd fun he Re se => ?_)))
 replace Re : IsPair he r x y := Re
 refine wpAny_bind (wpAny_letGo (wpAny_pure (wpAny_pure (wpAny_bind (wpAny_seqItems Re rfl (wpAny_bind (wpAny_newTuple ?_)))))))
 have sz5 : he.objs.size = s.heap.objs.size := by rw [se.1, sd.1, sc.1, sb.1, sa.1]
 have up : ∀ c o, c ≠ z → c ≠ r → c ≠ i1 → c ≠ i2 → s.heap.get? c = some o → he.get? c = some o := fun c o n1 n2 n3 n4 e => se.extBut _ _ n2 (sd.extBut _ _ n4 (sc.extBut _ _ n2 (sb.extBut _ _ n3 (sa.extBut _ _ n1 e))))
 have Ze : IsZip he z p r .ellipsis := se.extBut _ _ D.TOz.symm (sd.extBut _ _ D.i2z.symm (sc.extBut _ _ D.TOz.symm (sb.extBut _ _ D.i1z.symm Za)))
 refine wpAny_bind (m := Builtin.SmallTypes.ownedTupleHandOut (.ref z) (.ref he.objs.size)) ?_
 unfold Builtin.SmallTypes.ownedTupleHandOut
 have zl := Heap.lt_size Ze
 refine wpAny_bind (wpAny_setField_rec (Heap.get?_push_of_some _ Ze) (by simp) fun hf Zf sf => ?_)
 replace Zf : IsZip hf z p r (rawInt he.objs.size) := Zf
 refine wpAny_setField_rec Zf (by simp) fun hg Zg sg => wpAny_pure ⟨_, rfl, ?_⟩
 have top : ∀ c o, c ≠ z → he.get? c = some o → hg.get? c = some o := fun c o n e => sg.extBut _ _ n (sf.extBut _ _ n (Heap.get?_push_of_some _ e))
 have pr : IsPair hg he.objs.size x y := sg.extBut _ _ (Nat.ne_of_gt zl) (sf.extBut _ _ (Nat.ne_of_gt zl) (Heap.get?_push_size _ rfl))
 show Q (.ref he.objs.size) _
 rw [sz5] at pr Zg ⊢
 refine q hg ⟨Zg, top _ _ D.TIz (up _ _ D.TIz D.TITO D.TIi1 D.TIi2 P), ⟨x, y, top _ _ D.TOz Re⟩, ?_, ?_, T1.at fun o e => top _ o D.l1z (up _ o D.l1z D.l1TO D.l1i1 D.l1i2 e), T2.at fun o e => top _ o D.l2z (up _ o D.l2z D.l2TO D.l2i1 D.l2i2 e)⟩ pr fun c o n1 n2 n3 n4 e => top c o n1 (up c o n1 n2 n3 n4 e)
 · exact (((A1b.at fun o e => sc.extBut _ o D.TOi1.symm e).at fun o e => sd.extBut _ o D.i12 e).at fun o e => se.extBut _ o D.TOi1.symm e).at fun o e => top _ o D.i1z e
 · exact (A2d.at fun o e => se.extBut _ o D.TOi2.symm e).at fun o e => top _ o D.i2z e
theorem zs_end {b1 b2 : Bool} {z p r i1 i2 l1 l2 : Addr} {k : Nat} {xs ys : Array Value} {Q : Fin → Shared → Prop} (hh : A.handled = none) (D : ZipApart z p r i1 i2 l1 l2) (S : ZS b1 b2 s.heap z p r i1 i2 l1 l2 k xs ys .none) (he : xs[k]? = none ∨ ys[k]? = none)
   (q : ∀ h' e, (∀ c o, c ≠ z → c ≠ r → c ≠ i1 → c ≠ i2 → s.heap.get? c = some o → h'.get? c = some o) → (∃ o, h'.get? e = some o ∧ o.cls = .type "StopIteration") → E (.ref e) { s with heap := h' }) :
   wpAny (model prog w) A (Builtin.«zip.__next__» ⟨[.ref z], []⟩) Q E s := by
 obtain ⟨Z, P, ⟨a, b, R⟩, A1, A2, T1, T2⟩ := S
 refine wpAny_bind (m := field (.ref z) 2) (wpAny_field Z rfl (x := .bool false) rfl ?_)
 refine wpAny_bind (m := field (.ref z) 3) (wpAny_field Z rfl (x := .ref p) rfl (wpAny_bind (wpAny_seqItems P rfl ?_)))
 refine wpAny_bind (m := Builtin.SmallTypes.ownedTupleIsFree (.ref z)) ?_
 unfold Builtin.SmallTypes.ownedTupleIsFree; refine wpAny_bind (wpAny_field Z rfl (x := .none) rfl (wpAny_pure ?_)); simp only [if_true]
 refine wpAny_bind (wpAny_rule (wpAny_bind (wpAny_field Z rfl (x := .ref r) rfl (wpAny_bind (wpAny_setField_rec Z (by simp) fun ha Za sa => ?_)))))
 replace Za : IsZip ha z p r .ellipsis := Za
 refine wpAny_bind ?_; simp only [List.zipIdx_cons, List.zipIdx_nil, List.forIn_cons, List.forIn_nil]
 have A1a := A1.at fun o e => sa.extBut _ o D.i1z e
 have A2a := A2.at fun o e => sa.extBut _ o D.i2z e
 have T1a := T1.at fun o e => sa.extBut _ o D.l1z e
 have off : ∀ {hc : Heap} {e : Addr} {oe : Obj}, IsZip hc z p r .ellipsis → hc.get? e = some oe → oe.cls = .type "StopIteration" → e ≠ z := fun Zc g c x => by subst x; rw [Zc] at g; cases g; simp at c
 cases hx : xs[k]? with
 | none =>
   refine wpAny_bind (wpAny_bind (wpAny_onRaise (wpAny_bind (m := Builtin.SmallTypes.nextOf (.ref i1)) (ny_end hh A1a T1a hx fun hb e sb ⟨oe, ge, ce⟩ => ?_))))
   have Zb : IsZip hb z p r .ellipsis := sb _ _ D.i1z.symm Za
   exact wpAny_setField_rec Zb (by simp) fun hc _ sc => q hc e (fun c o n1 _ n3 _ g => sc.extBut _ _ n1 (sb _ _ n3 (sa.extBut _ _ n1 g))) ⟨oe, sc.extBut _ _ (off Zb ge ce) ge, ce⟩
 | some x =>
   have hy : ys[k]? = none := he.resolve_left fun z => by rw [hx] at z; cases z
   refine wpAny_bind (wpAny_bind (wpAny_onRaise (wpAny_bind (m := Builtin.SmallTypes.nextOf (.ref i1)) (ny_item A1a T1a hx fun hb A1b sb => wpAny_pure ?_))))
   have Rb : IsPair hb r a b := sb.extBut _ _ D.TOi1 (sa.extBut _ _ D.TOz R)
   refine wpAny_bind (wpAny_seqItems Rb rfl (wpAny_bind (wpAny_updateSeq_pair Rb fun hc Rc sc => ?_)))
   refine wpAny_bind (wpAny_letGo (wpAny_pure ?_))
   have A2c := (A2a.at fun o e => sb.extBut _ o D.i12.symm e).at fun o e => sc.extBut _ o D.TOi2.symm e
   have T2c := ((T2.at fun o e => sa.extBut _ o D.l2z e).at fun o e => sb.extBut _ o D.l2i1 e).at fun o e => sc.extBut _ o D.l2TO e
   refine wpAny_bind (wpAny_bind (wpAny_onRaise (wpAny_bind (m := Builtin.SmallTypes.nextOf (.ref i2)) (ny_end hh A2c T2c hy fun hd e sd ⟨oe, ge, ce⟩ => ?_))))
   have Zd : IsZip hd z p r .ellipsis := sd _ _ D.i2z.symm (sc.extBut _ _ D.TOz.symm (sb.extBut _ _ D.i1z.symm Za))
   exact wpAny_setField_rec Zd (by simp) fun hf _ sf => q hf e (fun c o n1 n2 n3 n4 g => sf.extBut _ _ n1 (sd _ _ n4 (sc.extBut _ _ n2 (sb.extBut _ _ n3 (sa.extBut _ _ n1 g))))) ⟨oe, sf.extBut _ _ (off Zd ge ce) ge, ce⟩
theorem next_zs {b1 b2 : Bool} {z p r i1 i2 l1 l2 : Addr} {k : Nat} {xs ys : Array Value} {x y : Value} {Q : Option Value → Shared → Prop} (D : ZipApart z p r i1 i2 l1 l2) (S : ZS b1 b2 s.heap z p r i1 i2 l1 l2 k xs ys .none) (hx : xs[k]? = some x) (hy : ys[k]? = some y)
   (q : ∀ h', ZS b1 b2 h' z p r i1 i2 l1 l2 (k + 1) xs ys (rawInt s.heap.objs.size) → IsPair h' s.heap.objs.size x y → (∀ c o, c ≠ z → c ≠ r → c ≠ i1 → c ≠ i2 → s.heap.get? c = some o → h'.get? c = some o) → Q (some (.ref s.heap.objs.size)) { s with heap := h' }) : wpAny (model prog w) A (pyNext (.ref z)) Q E s := by
 have T : s.TypeIs (.ref z) "zip" := ⟨_, S.zz, rfl⟩
 unfold pyNext; exact wpAny_bind (wpAny_attempt (wpAny_callSpecial?_slot (name := Str.ofString "__next__") T F.slot_zip_next (wpAny_call_entry F.slot_zip_next T F.entry_zip_next (zs_item D S hx hy fun h' a b c => wpAny_pure (q h' a b c)) (F.args_zip_next_1 _))))
theorem next_ze {b1 b2 : Bool} {z p r i1 i2 l1 l2 : Addr} {k : Nat} {xs ys : Array Value} {Q : Option Value → Shared → Prop} (hh : A.handled = none) (D : ZipApart z p r i1 i2 l1 l2) (S : ZS b1 b2 s.heap z p r i1 i2 l1 l2 k xs ys .none) (he : xs[k]? = none ∨ ys[k]? = none)
   (q : ∀ h', (∀ c o, c ≠ z → c ≠ r → c ≠ i1 → c ≠ i2 → s.heap.get? c = some o → h'.get? c = some o) → Q none { s with heap := h' }) : wpAny (model prog w) A (pyNext (.ref z)) Q E s := by
 have T : s.TypeIs (.ref z) "zip" := ⟨_, S.zz, rfl⟩
 unfold pyNext; refine wpAny_bind (wpAny_attempt (wpAny_callSpecial?_slot (name := Str.ofString "__next__") T F.slot_zip_next (wpAny_call_entry F.slot_zip_next T F.entry_zip_next (zs_end hh D S he fun h' e up ⟨o, g, c⟩ => ?_) (F.args_zip_next_1 _))))
 exact wpAny_bind (wpAny_isInstance (T := "StopIteration") (b := true) ⟨o, g, c⟩ isSubtype_stop (wpAny_pure (q _ up)))
def itN : Bool → String
 | true => "list_iterator"
 | false => "tuple_iterator"
abbrev zq1 (b1 : Bool) (h : Heap) (l1 : Addr) : Heap := h.push { cls := .type (itN b1), data := .fields #[.ref l1, .int 0 0] }
abbrev zq2 (b1 b2 : Bool) (h : Heap) (l1 l2 : Addr) : Heap := (zq1 b1 h l1).push { cls := .type (itN b2), data := .fields #[.ref l2, .int 0 0] }
abbrev zq3 (b1 b2 : Bool) (h : Heap) (l1 l2 : Addr) : Heap := (zq2 b1 b2 h l1 l2).push { cls := .type "tuple", data := .seq #[.ref h.objs.size, .ref (zq1 b1 h l1).objs.size] }
abbrev zq4 (b1 b2 : Bool) (h : Heap) (l1 l2 : Addr) : Heap := (zq3 b1 b2 h l1 l2).push { cls := .type "tuple", data := .seq #[.none, .none] }
abbrev zq5 (b1 b2 : Bool) (h : Heap) (l1 l2 : Addr) : Heap := (zq4 b1 b2 h l1 l2).push { cls := .type "zip", data := .fields #[.none, .bool false, .bool false, .ref (zq2 b1 b2 h l1 l2).objs.size, .ref (zq3 b1 b2 h l1 l2).objs.size] }
theorem new_zip (b1 b2 : Bool) (l1 l2 : Addr) (xs ys : Array Value) : Meets (Builtin.«zip.__new__» ⟨[.type "zip", .ref l1, .ref l2], []⟩) (fun _ R s => SSq b1 s.heap l1 xs ∧ SSq b2 s.heap l2 ys ∧ R (.ok (.ret (.ref (zq4 b1 b2 s.heap l1 l2).objs.size))) { s with heap := zq5 b1 b2 s.heap l1 l2 }) :=
 .of_wp fun prog w A R s h => by
   obtain ⟨hp, g, d, tk, os⟩ := s; obtain ⟨a1, a2, q⟩ := h
   have sub := sub_zip
   have a3 : SSq b2 (Shared.heap ⟨zq1 b1 hp l1, g, d, tk, os⟩) l2 ys := a2.at fun o e => Heap.get?_push_of_some _ e
   cases b1
   · replace a1 : Heap.IsTuple (Shared.heap ⟨hp, g, d, tk, os⟩) l1 xs := a1
     cases b2
     · replace a3 : Heap.IsTuple (Shared.heap ⟨hp.push { cls := .type "tuple_iterator", data := .fields #[.ref l1, .int 0 0] }, g, d, tk, os⟩) l2 ys := a3
       wp_walk using wpAny_pyIter_tuple a1, wpAny_pyIter_tuple a3
       exact ⟨_, rfl, q⟩
     · replace a3 : Heap.IsList (Shared.heap ⟨hp.push { cls := .type "tuple_iterator", data := .fields #[.ref l1, .int 0 0] }, g, d, tk, os⟩) l2 ys := a3
       wp_walk using wpAny_pyIter_tuple a1, wpAny_pyIter_list a3
       exact ⟨_, rfl, q⟩
   · replace a1 : Heap.IsList (Shared.heap ⟨hp, g, d, tk, os⟩) l1 xs := a1
     cases b2
     · replace a3 : Heap.IsTuple (Shared.heap ⟨hp.push { cls := .type "list_iterator", data := .fields #[.ref l1, .int 0 0] }, g, d, tk, os⟩) l2 ys := a3
       wp_walk using wpAny_pyIter_list a1, wpAny_pyIter_tuple a3
       exact ⟨_, rfl, q⟩
     · replace a3 : Heap.IsList (Shared.heap ⟨hp.push { cls := .type "list_iterator", data := .fields #[.ref l1, .int 0 0] }, g, d, tk, os⟩) l2 ys := a3
       wp_walk using wpAny_pyIter_list a1, wpAny_pyIter_list a3
       exact ⟨_, rfl, q⟩
theorem call_zs {b1 b2 : Bool} {l1 l2 : Addr} {xs ys : Array Value} {Q : Value → Shared → Prop} (h1 : SSq b1 s.heap l1 xs) (h2 : SSq b2 s.heap l2 ys)
   (q : ∀ h', ZS b1 b2 h' (s.heap.objs.size + 4) (s.heap.objs.size + 2) (s.heap.objs.size + 3) s.heap.objs.size (s.heap.objs.size + 1) l1 l2 0 xs ys .none → (∀ c o, s.heap.get? c = some o → h'.get? c = some o) → Q (.ref (s.heap.objs.size + 4)) { s with heap := h' }) : wpAny (model prog w) A (call (.type "zip") [.ref l1, .ref l2]) Q E s := by
 refine callType_new F.called_zip (by decide) (F.typeCall_zip_2 _ _) (F.newCall_zip_2 _ _) (fun obj => F.args_object_init_3 obj _ _) F.entry_zip_new (new_zip b1 b2 l1 l2 xs ys) ⟨h1, h2, ?_⟩
 have n1 : (zq1 b1 s.heap l1).objs.size = s.heap.objs.size + 1 := Heap.size_push ..
 have n2 : (zq2 b1 b2 s.heap l1 l2).objs.size = s.heap.objs.size + 2 := by rw [Heap.size_push, n1]
 have n3 : (zq3 b1 b2 s.heap l1 l2).objs.size = s.heap.objs.size + 3 := by rw [Heap.size_push, n2]
 have n4 : (zq4 b1 b2 s.heap l1 l2).objs.size = s.heap.objs.size + 4 := by rw [Heap.size_push, n3]
 have up : ∀ {h : Heap} {c : Addr} {o o' : Obj}, h.get? c = some o → (h.push o').get? c = some o := fun e => Heap.get?_push_of_some _ e
 have e5 : (zq5 b1 b2 s.heap l1 l2).get? (zq4 b1 b2 s.heap l1 l2).objs.size = some _ := Heap.get?_push_size _ rfl
 have e4 : (zq5 b1 b2 s.heap l1 l2).get? (zq3 b1 b2 s.heap l1 l2).objs.size = some _ := up (Heap.get?_push_size _ rfl)
 have e3 : (zq5 b1 b2 s.heap l1 l2).get? (zq2 b1 b2 s.heap l1 l2).objs.size = some _ := up (up (Heap.get?_push_size _ rfl))
 have e2 : (zq5 b1 b2 s.heap l1 l2).get? (zq1 b1 s.heap l1).objs.size = some _ := up (up (up (Heap.get?_push_size _ rfl)))
 have e1 : (zq5 b1 b2 s.heap l1 l2).get? s.heap.objs.size = some _ := up (up (up (up (Heap.get?_push_size _ rfl))))
 have all : ∀ c o, s.heap.get? c = some o → (zq5 b1 b2 s.heap l1 l2).get? c = some o := fun c o e => up (up (up (up (up e))))
 show _ ∧ _
 rw [n2, n3, n4] at e5
 rw [n1, n2] at e3
 rw [n3] at e4
 rw [n1] at e2
 rw [n4]
 exact ⟨⟨_, e5, rfl⟩, q _ ⟨e5, e3, ⟨_, _, e4⟩, (by cases b1 <;> exact ⟨_, e1, rfl, rfl⟩), (by cases b2 <;> exact ⟨_, e2, rfl, rfl⟩), h1.at fun o e => all _ o e, h2.at fun o e => all _ o e⟩ all⟩
theorem zs_apart (n l1 l2 : Nat) (h1 : l1 < n) (h2 : l2 < n) : ZipApart (n + 4) (n + 2) (n + 3) n (n + 1) l1 l2 := by
 have ne : ∀ {a b : Nat}, a < b ∨ b < a → (a : Addr) ≠ b := fun h e => by rcases h with h | h <;> exact Nat.lt_irrefl _ (e ▸ h)
 constructor <;> (refine ne ?_; omega)
end
end L3
namespace L3
open PySem PySem.Spec
open PyProof.Rows hiding St
open L2
section
variable {X : Cx} {pins : List (Addr × Obj)} {σ : L2.St} {H : Hp} {s : Shared} {h' : Heap} {t' : Nat}
theorem inv_turnL {fp : List Addr} (I : Inv X pins σ H s) (hf : ∀ b ∈ fp, FpOk X pins H b) (k : ∀ b o, b ∉ fp → s.heap.get? b = some o → h'.get? b = some o) : Inv X pins σ H { s with heap := h', toks := t' } := by
 have nit : ∀ b u, H b = some u → b ∉ fp := fun b u e z => by rw [(hf b z).1] at e; cases e
 refine I.step (g' := s.gens) (d' := s.drawn) (ch := fp) (fun b hb => let ⟨_, a, _, b, c, d⟩ := hf b hb; ⟨b, a, c, d⟩) (fun b o _ _ hc e _ => k b o hc e) (fun b o _ _ hc e _ => ⟨o.slots, k b o hc e⟩) (fun _ _ _ _ n => n) (fun b o hc e => ⟨o, k b o hc e⟩) (fun _ _ e => e) (fun _ _ _ e => e) (fun b ps e => ⟨#[], by rw [e]; simp⟩)
   (fun m ⟨o, es, ep, ho, r⟩ => ⟨o, es, ep, k _ o (fun z => (hf _ z).2.1 rfl) ho, r⟩) (fun b u e => (I.hok b u e).stay (fun c v hc q => k c v ?_ q) (fun _ q => q) fun _ _ q => q) I.bare
 rcases hc with z | z
 · rw [z]; exact nit b u e
 · exact nit c _ z
theorem inv_turnN {fp : List Addr} {a : Addr} {o : HO} (I : Inv X pins σ H s) (hf : ∀ b ∈ fp, FpOk X pins H b) (k : ∀ b o, b ∉ fp → s.heap.get? b = some o → h'.get? b = some o) (hp : s.heap.objs.size ≤ a) (new : ObjOk X.prog X.w (upd H a o) h' a o) : Inv X pins σ (upd H a o) { s with heap := h', toks := t' } := by
 have nit : ∀ b u, H b = some u → b ∉ fp := fun b u e z => by rw [(hf b z).1] at e; cases e
 have hn := I.hok.fresh hp
 have na : ∀ b u, H b = some u → b ≠ a := fun b u e z => by rw [z, hn] at e; cases e
 have nb : ∀ b (o : Obj), s.heap.get? b = some o → b ≠ a := fun b o e z => Nat.lt_irrefl _ (Nat.lt_of_lt_of_le (Heap.lt_size e) (z ▸ hp))
 refine I.step (g' := s.gens) (d' := s.drawn) (ch := fp) (fun b hb => let ⟨_, a, _, b, c, d⟩ := hf b hb; ⟨b, a, c, d⟩) (fun b o _ _ hc e _ => k b o hc e) (fun b o _ _ hc e _ => ⟨o.slots, k b o hc e⟩) (fun b o _ e n => by rw [upd_ne (nb b o e)]; exact n) (fun b o hc e => ⟨o, k b o hc e⟩) (fun b _ e => by rw [upd_ne (na b _ e)]; exact e) (fun b _ _ e => by rw [upd_ne (na b _ e)]; exact e) (fun b ps e => ⟨#[], by rw [upd_ne (na b _ e), e]; simp⟩)
   (fun m ⟨o, es, ep, ho, r⟩ => ⟨o, es, ep, k _ o (fun z => (hf _ z).2.1 rfl) ho, r⟩) (fun b u e => ?_) I.bare
 by_cases hb : b = a
 · subst hb; rw [upd_same] at e; cases e; exact new
 · rw [upd_ne hb] at e
   refine (I.hok b u e).stay (fun c v hc q => k c v ?_ q) (fun c q => by rw [upd_ne (na c _ q)]; exact q) fun c xs q => by rw [upd_ne (na c _ q)]; exact q
   rcases hc with z | z
   · rw [z]; exact nit b u e
   · exact nit c _ z
end
def SqS (K : PySem.W.Frag) : Bool → Hp → Addr → List V → Prop
 | true, H, l, ys => SqL K H l ys
 | false, H, l, ys => SqT K H l ys
theorem Inv.sqs {X : Cx} {pins : List (Addr × Obj)} {σ : L2.St} {H : Hp} {s : Shared} {b : Bool} {l : Addr} {ys : List V} (I : Inv X pins σ H s) (h : SqS X.K b H l ys) : ∃ vs : List Value, Vals ys vs ∧ SSq b s.heap l vs.toArray ∧ ys.length ≤ sizeLine := by
 cases b
 · obtain ⟨vs, r, t, z⟩ := I.tuple h; exact ⟨vs, r, t, z⟩
 · obtain ⟨vs, r, t, z⟩ := I.list h; exact ⟨vs, r, t.isList, z⟩
theorem bt_zip : bootBuiltins "zip" = some (.type "zip") := by decide +kernel
section
variable {K : PySem.W.Frag} {O : Ob}
def zipD : List PyData → List PyData → List PyData
 | d :: ds, e :: es => .tuple [d, e] :: zipD ds es
 | _, _ => []
theorem flats_at {ds : List PyData} {i : Nat} {d : PyData} (h : flats ds = true) (e : ds[i]? = some d) : flat d = true := by
 induction ds generalizing i with
 | nil => cases e
 | cons x ds ih =>
   rw [flats, Bool.and_eq_true] at h
   cases i with
   | zero => cases e; exact h.1
   | succ i => exact ih h.2 e
end
end L3
namespace L3
open PySem PySem.Spec
open PyProof.Rows hiding St
open L2
abbrev IsZipF (h : Heap) (z p r : Addr) (a : Addr) (f : Bool) : Prop := h.get? z = some { cls := .type "zip", dict := none, data := .fields #[rawInt a, .bool f, .bool false, .ref p, .ref r], slots := #[] }
section
variable {prog : Program} {w : World} {A : Around} {E : Value → Shared → Prop} {s : Shared} {b1 : Bool}
theorem zf_next {z p r i1 i2 l1 l2 a : Addr} {f : Bool} {oa : Obj} {k : Nat} {xs ys : Array Value} {x y : Value} {Q : Value → Shared → Prop} (D : ZipApart z p r i1 i2 l1 l2) (Z : IsZipF s.heap z p r a f) (ha : s.heap.get? a = some oa) (az : a ≠ z) (P : IsPair s.heap p (.ref i1) (.ref i2)) (A1 : SIt b1 s.heap i1 l1 k) (A2 : s.heap.IsTupleIter i2 l2 k) (T1 : SSq b1 s.heap l1 xs) (T2 : s.heap.IsTuple l2 ys) (hx : xs[k]? = some x) (hy : ys[k]? = some y)
   (q : ∀ h', IsZipF h' z p r a true → SIt b1 h' i1 l1 (k + 1) → h'.IsTupleIter i2 l2 (k + 1) → IsPair h' s.heap.objs.size x y → h'.objs.size = s.heap.objs.size + 1 → (∀ c o, c ≠ z → c ≠ i1 → c ≠ i2 → s.heap.get? c = some o → h'.get? c = some o) → Q (.ref s.heap.objs.size) { s with heap := h' }) :
   wpAny (model prog w) A (Builtin.«zip.__next__» ⟨[.ref z], []⟩) (fun fin s' => ∃ v, fin = .done (.ret v) ∧ Q v s') E s := by
 refine wpAny_bind (m := field (.ref z) 2) (wpAny_field Z rfl (x := .bool false) rfl ?_)
 refine wpAny_bind (m := field (.ref z) 3) (wpAny_field Z rfl (x := .ref p) rfl (wpAny_bind (wpAny_seqItems P rfl ?_)))
 refine wpAny_bind (m := Builtin.SmallTypes.ownedTupleIsFree (.ref z)) ?_
 unfold Builtin.SmallTypes.ownedTupleIsFree
 refine wpAny_bind (wpAny_field Z rfl (x := rawInt a) rfl ?_)
 show wpAny _ _ (loadIfAlive ((a : Int).toNat) >>= _) _ _ _
 rw [Int.toNat_natCast]
 refine wpAny_bind (PySem.W.kdx_alive ha ?_)
 simp only [Option.isNone_some, Bool.false_eq_true, if_false]
 refine wpAny_bind (wpAny_field Z rfl (x := .bool f) rfl ?_)
 cases f
 case false =>
   rw [if_pos (show (Value.bool false != Value.bool true) = true from rfl)]
   refine wpAny_bind (wpAny_setField_rec Z (by simp) fun ha Za sa => ?_)
   refine wpAny_pure ?_
   simp only [Bool.false_eq_true, if_false]
   replace Za : IsZipF ha z p r a true := Za
   have A1a := A1.at fun o e => sa.extBut _ o D.i1z e
   have A2a := A2.at fun o e => sa.extBut _ o D.i2z e
   have T1a := T1.at fun o e => sa.extBut _ o D.l1z e
   have T2a := T2.at fun o e => sa.extBut _ o D.l2z e
   rw [← Array.forIn_toList]
   simp only [List.forIn_cons, List.forIn_nil]
   refine wpAny_bind (wpAny_bind (wpAny_bind (wpAny_holding (wpAny_bind (m := Builtin.SmallTypes.nextOf (.ref i1)) (ny_item A1a T1a hx fun hb A1b sb => wpAny_pure (wpAny_pure ?_))))))
   have A2b := A2a.at fun o e => sb.extBut _ o D.i12.symm e
   have T2b := T2a.at fun o e => sb.extBut _ o D.l2i1 e
   refine wpAny_bind (wpAny_bind (wpAny_holding (wpAny_bind (m := Builtin.SmallTypes.nextOf (.ref i2)) (nx_item A2b T2b hy fun hc A2c sc => wpAny_pure (wpAny_pure (wpAny_pure ?_))))))
   refine wpAny_bind (wpAny_newTuple (hsz := by show 2 ≤ sizeLine; rw [sizeLine_eq]; decide) (wpAny_pure ⟨_, rfl, ?_⟩))
   have sz : hc.objs.size = s.heap.objs.size := by rw [sc.1, sb.1, sa.1]
   have up : ∀ c o, c ≠ z → c ≠ i1 → c ≠ i2 → s.heap.get? c = some o → hc.get? c = some o := fun c o n1 n3 n4 e => sc.extBut _ _ n4 (sb.extBut _ _ n3 (sa.extBut _ _ n1 e))
   have Zc : IsZipF hc z p r a true := sc.extBut _ _ D.i2z.symm (sb.extBut _ _ D.i1z.symm Za)
   rw [sz]
   refine q _ (Heap.get?_push_of_some _ Zc) ((A1b.at fun o e => sc.extBut _ o D.i12 e).at fun o e => Heap.get?_push_of_some _ e) (A2c.at fun o e => Heap.get?_push_of_some _ e) ?_ (by rw [Heap.size_push, sz]) fun c o n1 n3 n4 e => Heap.get?_push_of_some _ (up c o n1 n3 n4 e)
   rw [← sz]
   exact Heap.get?_push_size _ rfl
 case true =>
   rw [if_neg (show ¬ ((Value.bool true != Value.bool true) = true) from Bool.false_ne_true)]
   refine wpAny_pure ?_
   simp only [Bool.false_eq_true, if_false]
   have Za : IsZipF s.heap z p r a true := Z
   have sa : Heap.SameBut z s.heap s.heap := Heap.SameBut.refl _ _
   have A1a := A1.at fun o e => sa.extBut _ o D.i1z e
   have A2a := A2.at fun o e => sa.extBut _ o D.i2z e
   have T1a := T1.at fun o e => sa.extBut _ o D.l1z e
   have T2a := T2.at fun o e => sa.extBut _ o D.l2z e
   rw [← Array.forIn_toList]
   simp only [List.forIn_cons, List.forIn_nil]
   refine wpAny_bind (wpAny_bind (wpAny_bind (wpAny_holding (wpAny_bind (m := Builtin.SmallTypes.nextOf (.ref i1)) (ny_item A1a T1a hx fun hb A1b sb => wpAny_pure (wpAny_pure ?_))))))
   have A2b := A2a.at fun o e => sb.extBut _ o D.i12.symm e
   have T2b := T2a.at fun o e => sb.extBut _ o D.l2i1 e
   refine wpAny_bind (wpAny_bind (wpAny_holding (wpAny_bind (m := Builtin.SmallTypes.nextOf (.ref i2)) (nx_item A2b T2b hy fun hc A2c sc => wpAny_pure (wpAny_pure (wpAny_pure ?_))))))
   refine wpAny_bind (wpAny_newTuple (hsz := by show 2 ≤ sizeLine; rw [sizeLine_eq]; decide) (wpAny_pure ⟨_, rfl, ?_⟩))
   have sz : hc.objs.size = s.heap.objs.size := by rw [sc.1, sb.1, sa.1]
   have up : ∀ c o, c ≠ z → c ≠ i1 → c ≠ i2 → s.heap.get? c = some o → hc.get? c = some o := fun c o n1 n3 n4 e => sc.extBut _ _ n4 (sb.extBut _ _ n3 (sa.extBut _ _ n1 e))
   have Zc : IsZipF hc z p r a true := sc.extBut _ _ D.i2z.symm (sb.extBut _ _ D.i1z.symm Za)
   rw [sz]
   refine q _ (Heap.get?_push_of_some _ Zc) ((A1b.at fun o e => sc.extBut _ o D.i12 e).at fun o e => Heap.get?_push_of_some _ e) (A2c.at fun o e => Heap.get?_push_of_some _ e) ?_ (by rw [Heap.size_push, sz]) fun c o n1 n3 n4 e => Heap.get?_push_of_some _ (up c o n1 n3 n4 e)
   rw [← sz]
   exact Heap.get?_push_size _ rfl
theorem zf_end {z p r i1 i2 l1 l2 a : Addr} {f : Bool} {oa : Obj} {k : Nat} {xs ys : Array Value} {Q : Fin → Shared → Prop} (hh : A.handled = none) (D : ZipApart z p r i1 i2 l1 l2) (Z : IsZipF s.heap z p r a f) (ha : s.heap.get? a = some oa) (P : IsPair s.heap p (.ref i1) (.ref i2)) (A1 : SIt b1 s.heap i1 l1 k) (A2 : s.heap.IsTupleIter i2 l2 k) (T1 : SSq b1 s.heap l1 xs) (T2 : s.heap.IsTuple l2 ys) (he : xs[k]? = none ∨ ys[k]? = none)
   (q : ∀ h' e, (∀ c o, c ≠ z → c ≠ i1 → c ≠ i2 → s.heap.get? c = some o → h'.get? c = some o) → (∃ o, h'.get? e = some o ∧ o.cls = .type "StopIteration") → E (.ref e) { s with heap := h' }) :
   wpAny (model prog w) A (Builtin.«zip.__next__» ⟨[.ref z], []⟩) Q E s := by
 refine wpAny_bind (m := field (.ref z) 2) (wpAny_field Z rfl (x := .bool false) rfl ?_)
 refine wpAny_bind (m := field (.ref z) 3) (wpAny_field Z rfl (x := .ref p) rfl (wpAny_bind (wpAny_seqItems P rfl ?_)))
 refine wpAny_bind (m := Builtin.SmallTypes.ownedTupleIsFree (.ref z)) ?_
 unfold Builtin.SmallTypes.ownedTupleIsFree
 refine wpAny_bind (wpAny_field Z rfl (x := rawInt a) rfl ?_)
 show wpAny _ _ (loadIfAlive ((a : Int).toNat) >>= _) _ _ _
 rw [Int.toNat_natCast]
 refine wpAny_bind (PySem.W.kdx_alive ha ?_)
 simp only [Option.isNone_some, Bool.false_eq_true, if_false]
 refine wpAny_bind (wpAny_field Z rfl (x := .bool f) rfl ?_)
 cases f
 case false =>
   rw [if_pos (show (Value.bool false != Value.bool true) = true from rfl)]
   refine wpAny_bind (wpAny_setField_rec Z (by simp) fun ha Za sa => ?_)
   refine wpAny_pure ?_
   simp only [Bool.false_eq_true, if_false]
   have A1a := A1.at fun o e => sa.extBut _ o D.i1z e
   have A2a := A2.at fun o e => sa.extBut _ o D.i2z e
   have T1a := T1.at fun o e => sa.extBut _ o D.l1z e
   have T2a := T2.at fun o e => sa.extBut _ o D.l2z e
   rw [← Array.forIn_toList]
   simp only [List.forIn_cons, List.forIn_nil]
   cases hx : xs[k]? with
   | none =>
     refine wpAny_bind (wpAny_bind (wpAny_bind (wpAny_holding (wpAny_bind (m := Builtin.SmallTypes.nextOf (.ref i1)) (ny_end hh A1a T1a hx fun hb e sb ge => ?_)))))
     exact q hb e (fun c o n1 n3 n4 g => sb _ _ n3 (sa.extBut _ _ n1 g)) ge
   | some x =>
     have hy : ys[k]? = none := he.resolve_left fun z => by rw [hx] at z; cases z
     refine wpAny_bind (wpAny_bind (wpAny_bind (wpAny_holding (wpAny_bind (m := Builtin.SmallTypes.nextOf (.ref i1)) (ny_item A1a T1a hx fun hb A1b sb => wpAny_pure (wpAny_pure ?_))))))
     have A2b := A2a.at fun o e => sb.extBut _ o D.i12.symm e
     have T2b := T2a.at fun o e => sb.extBut _ o D.l2i1 e
     refine wpAny_bind (wpAny_bind (wpAny_holding (wpAny_bind (m := Builtin.SmallTypes.nextOf (.ref i2)) (nx_end hh A2b T2b hy fun hc e sc ge => ?_))))
     exact q hc e (fun c o n1 n3 n4 g => sc _ _ n4 (sb.extBut _ _ n3 (sa.extBut _ _ n1 g))) ge
 case true =>
   rw [if_neg (show ¬ ((Value.bool true != Value.bool true) = true) from Bool.false_ne_true)]
   refine wpAny_pure ?_
   simp only [Bool.false_eq_true, if_false]
   have sa : Heap.SameBut z s.heap s.heap := Heap.SameBut.refl _ _
   have A1a := A1.at fun o e => sa.extBut _ o D.i1z e
   have A2a := A2.at fun o e => sa.extBut _ o D.i2z e
   have T1a := T1.at fun o e => sa.extBut _ o D.l1z e
   have T2a := T2.at fun o e => sa.extBut _ o D.l2z e
   rw [← Array.forIn_toList]
   simp only [List.forIn_cons, List.forIn_nil]
   cases hx : xs[k]? with
   | none =>
     refine wpAny_bind (wpAny_bind (wpAny_bind (wpAny_holding (wpAny_bind (m := Builtin.SmallTypes.nextOf (.ref i1)) (ny_end hh A1a T1a hx fun hb e sb ge => ?_)))))
     exact q hb e (fun c o n1 n3 n4 g => sb _ _ n3 (sa.extBut _ _ n1 g)) ge
   | some x =>
     have hy : ys[k]? = none := he.resolve_left fun z => by rw [hx] at z; cases z
     refine wpAny_bind (wpAny_bind (wpAny_bind (wpAny_holding (wpAny_bind (m := Builtin.SmallTypes.nextOf (.ref i1)) (ny_item A1a T1a hx fun hb A1b sb => wpAny_pure (wpAny_pure ?_))))))
     have A2b := A2a.at fun o e => sb.extBut _ o D.i12.symm e
     have T2b := T2a.at fun o e => sb.extBut _ o D.l2i1 e
     refine wpAny_bind (wpAny_bind (wpAny_holding (wpAny_bind (m := Builtin.SmallTypes.nextOf (.ref i2)) (nx_end hh A2b T2b hy fun hc e sc ge => ?_))))
     exact q hc e (fun c o n1 n3 n4 g => sc _ _ n4 (sb.extBut _ _ n3 (sa.extBut _ _ n1 g))) ge
def ZQ (h : Heap) (z p r i1 i2 l1 l2 S : Addr) (k : Nat) : Prop := (k = 0 ∧ IsZip h z p r .none) ∨ ∃ a f oa, IsZipF h z p r a f ∧ h.get? a = some oa ∧ a ≠ z ∧ a ≠ S ∧ a ≠ i1 ∧ a ≠ i2
structure ZL (b1 : Bool) (h : Heap) (z p r i1 i2 l1 l2 S : Addr) (k : Nat) (xs ys : Array Value) : Prop where
 zq : ZQ h z p r i1 i2 l1 l2 S k
 pp : IsPair h p (.ref i1) (.ref i2)
 rr : ∃ a b, IsPair h r a b
 a1 : SIt b1 h i1 l1 k
 a2 : h.IsTupleIter i2 l2 k
 t1 : SSq b1 h l1 xs
 t2 : h.IsTuple l2 ys
theorem zl_item {z p r i1 i2 l1 l2 S : Addr} {k : Nat} {xs ys : Array Value} {x y : Value} {Q : Option Value → Shared → Prop} (D : ZipApart z p r i1 i2 l1 l2) (Z : ZL b1 s.heap z p r i1 i2 l1 l2 S k xs ys) (hS : S < s.heap.objs.size) (hx : xs[k]? = some x) (hy : ys[k]? = some y)
   (q : ∀ h', ZL b1 h' z p r i1 i2 l1 l2 S (k + 1) xs ys → IsPair h' s.heap.objs.size x y → s.heap.objs.size < h'.objs.size → (∀ c o, c ≠ z → c ≠ r → c ≠ i1 → c ≠ i2 → s.heap.get? c = some o → h'.get? c = some o) → Q (some (.ref s.heap.objs.size)) { s with heap := h' }) : wpAny (model prog w) A (pyNext (.ref z)) Q E s := by
 have lt : ∀ {c : Addr} {o : Obj}, s.heap.get? c = some o → s.heap.objs.size ≠ c := fun e => Nat.ne_of_gt (Heap.lt_size e)
 obtain ⟨zq, pp, rr, a1, a2, t1, t2⟩ := Z
 have n1 : s.heap.objs.size ≠ i1 := by obtain ⟨o, e, _⟩ := SIt.obj a1; exact lt e
 have n2 : s.heap.objs.size ≠ i2 := by obtain ⟨o, e, _⟩ := a2; exact lt e
 rcases zq with ⟨rfl, zz⟩ | ⟨a, f, oa, zz, ha, az, aS, ai1, ai2⟩
 · refine next_zs (b2 := false) D ⟨zz, pp, rr, a1, a2, t1, t2⟩ hx hy fun h' Z' pr up => q h' ⟨.inr ⟨_, false, _, Z'.zz, pr, lt zz, Nat.ne_of_gt hS, n1, n2⟩, Z'.pp, Z'.rr, Z'.a1, Z'.a2, Z'.t1, Z'.t2⟩ pr (Heap.lt_size pr) up
 · have T : s.TypeIs (.ref z) "zip" := ⟨_, zz, rfl⟩
   unfold pyNext
   refine wpAny_bind (wpAny_attempt (wpAny_callSpecial?_slot (name := Str.ofString "__next__") T F.slot_zip_next (wpAny_call_entry F.slot_zip_next T F.entry_zip_next (zf_next D zz ha az pp a1 a2 t1 t2 hx hy fun h' Z' b1 b2 pr sz up => wpAny_pure ?_) (F.args_zip_next_1 _))))
   obtain ⟨u, v, rr⟩ := rr
   exact q h' ⟨.inr ⟨a, true, oa, Z', up a oa az ai1 ai2 ha, az, aS, ai1, ai2⟩, up _ _ D.TIz D.TIi1 D.TIi2 pp, ⟨u, v, up _ _ D.TOz D.TOi1 D.TOi2 rr⟩, b1, b2, t1.at fun o e => up _ o D.l1z D.l1i1 D.l1i2 e, t2.at fun o e => up _ o D.l2z D.l2i1 D.l2i2 e⟩ pr (by omega) fun c o c1 _ c3 c4 e => up c o c1 c3 c4 e
theorem zl_end {z p r i1 i2 l1 l2 S : Addr} {k : Nat} {xs ys : Array Value} {Q : Option Value → Shared → Prop} (hh : A.handled = none) (D : ZipApart z p r i1 i2 l1 l2) (Z : ZL b1 s.heap z p r i1 i2 l1 l2 S k xs ys) (he : xs[k]? = none ∨ ys[k]? = none)
   (q : ∀ h', (∀ c o, c ≠ z → c ≠ r → c ≠ i1 → c ≠ i2 → s.heap.get? c = some o → h'.get? c = some o) → Q none { s with heap := h' }) : wpAny (model prog w) A (pyNext (.ref z)) Q E s := by
 obtain ⟨zq, pp, rr, a1, a2, t1, t2⟩ := Z
 rcases zq with ⟨rfl, zz⟩ | ⟨a, f, oa, zz, ha, az, aS, ai1, ai2⟩
 · exact next_ze (b2 := false) hh D ⟨zz, pp, rr, a1, a2, t1, t2⟩ he q
 · have T : s.TypeIs (.ref z) "zip" := ⟨_, zz, rfl⟩
   unfold pyNext
   refine wpAny_bind (wpAny_attempt (wpAny_callSpecial?_slot (name := Str.ofString "__next__") T F.slot_zip_next (wpAny_call_entry F.slot_zip_next T F.entry_zip_next (zf_end hh D zz ha pp a1 a2 t1 t2 he fun h' e up ⟨o, g, c⟩ => ?_) (F.args_zip_next_1 _))))
   exact wpAny_bind (wpAny_isInstance (T := "StopIteration") (b := true) ⟨o, g, c⟩ isSubtype_stop (wpAny_pure (q _ fun c o c1 _ c3 c4 e => up c o c1 c3 c4 e)))
theorem ZL.at {h h' : Heap} {z p r i1 i2 l1 l2 S : Addr} {k : Nat} {xs ys : Array Value} (Z : ZL b1 h z p r i1 i2 l1 l2 S k xs ys) (nS : S ≠ z ∧ S ≠ p ∧ S ≠ r ∧ S ≠ i1 ∧ S ≠ i2 ∧ S ≠ l1 ∧ S ≠ l2) (up : ∀ c o, c ≠ S → h.get? c = some o → h'.get? c = some o) : ZL b1 h' z p r i1 i2 l1 l2 S k xs ys := by
 obtain ⟨zq, pp, ⟨u, v, rr⟩, a1, a2, t1, t2⟩ := Z
 obtain ⟨s1, s2, s3, s4, s5, s6, s7⟩ := nS
 refine ⟨?_, up _ _ s2.symm pp, ⟨u, v, up _ _ s3.symm rr⟩, a1.at fun o e => up _ o s4.symm e, a2.at fun o e => up _ o s5.symm e, t1.at fun o e => up _ o s6.symm e, t2.at fun o e => up _ o s7.symm e⟩
 rcases zq with ⟨e, zz⟩ | ⟨a, f, oa, zz, ha, az, aS, ai⟩
 · exact .inl ⟨e, up _ _ s1.symm zz⟩
 · exact .inr ⟨a, f, oa, up _ _ s1.symm zz, up _ _ aS ha, az, aS, ai⟩
structure ZG (n0 : Nat) (xs ys : Array Value) (h : Heap) (as : List Addr) : Prop where
 rise : as.Pairwise (· < ·)
 above : ∀ a ∈ as, n0 ≤ a
 pairs : ∀ (j : Nat) (a : Addr), as[j]? = some a → ∃ x y, xs[j]? = some x ∧ ys[j]? = some y ∧ IsPair h a x y
theorem ZG.there {n0 : Nat} {xs ys : Array Value} {h : Heap} {as : List Addr} (g : ZG n0 xs ys h as) {a : Addr} (ha : a ∈ as) : a < h.objs.size := by
 obtain ⟨j, hj⟩ := List.mem_iff_getElem?.mp ha
 obtain ⟨_, _, _, _, e⟩ := g.pairs j a hj
 exact Heap.lt_size e
theorem ge_ne {a b n : Nat} (h : n ≤ a) (l : b < n) : a ≠ b := fun e => by omega
theorem zl_loop {S z p r i1 i2 l1 l2 : Addr} {n0 n : Nat} {xs ys : Array Value} {R : Result → Shared → Prop} (hh : A.handled = none) (D : ZipApart z p r i1 i2 l1 l2) (nS : S ≠ z ∧ S ≠ p ∧ S ≠ r ∧ S ≠ i1 ∧ S ≠ i2 ∧ S ≠ l1 ∧ S ≠ l2) (lo : S < n0 ∧ z < n0 ∧ r < n0 ∧ i1 < n0 ∧ i2 < n0) (hn : n ≤ sizeLine) (ex : n = min xs.size ys.size) (res : Value) {h₁ : Heap}
   (hR : ∀ h' tk acc c as, (∀ b o, b ≠ S → b ≠ z → b ≠ r → b ≠ i1 → b ≠ i2 → h₁.get? b = some o → h'.get? b = some o) → h'.get? S = some { cls := .type "list", dict := none, data := .seq acc c, slots := #[] } → as.length = n → ZG n0 xs ys h' as → acc.toList = as.map Value.ref → R (.ok (.ret res)) { s with heap := h', toks := tk }) :
   ∀ (k i : Nat) (h : Heap) (tk c : Nat) (acc : Array Value) (as : List Addr), n - i = k → i ≤ n → ZL b1 h z p r i1 i2 l1 l2 S i xs ys → (∀ b o, b ≠ S → b ≠ z → b ≠ r → b ≠ i1 → b ≠ i2 → h₁.get? b = some o → h.get? b = some o) →
     h.get? S = some { cls := .type "list", dict := none, data := .seq acc c, slots := #[] } → acc.toList = as.map Value.ref → as.length = i → ZG n0 xs ys h as → n0 ≤ h.objs.size →
     codeAny (model prog w) A (.builtin "list.extend.loop" ⟨[.ref S, .ref z, res], []⟩) R { s with heap := h, toks := tk } := by
 intro k
 induction k with
 | zero =>
   intro i h tk c acc as hk hi Z hkeep hS hacc hal hG hn0
   refine codeAny_builtin PySem.F.entry_extend_loop ?_
   rw [Around.under_plainId PySem.F.plain_extend_loop _]
   show wpAny _ A.in1 (pyNext (.ref z) >>= _) _ _ _
   refine wpAny_bind (zl_end (s := { s with heap := h, toks := tk }) (A := A.in1) hh D Z (by
     by_cases e : xs.size ≤ i
     · exact .inl (Array.getElem?_eq_none e)
     · exact .inr (Array.getElem?_eq_none (by omega))) fun h' up => ?_)
   have nb : ∀ {a : Addr}, a ∈ as → a ≠ z ∧ a ≠ r ∧ a ≠ i1 ∧ a ≠ i2 := fun m => by
     have := hG.above _ m
     exact ⟨ge_ne this lo.2.1, ge_ne this lo.2.2.1, ge_ne this lo.2.2.2.1, ge_ne this lo.2.2.2.2⟩
   refine wpAny_pure (hR h' tk acc c as (fun b o b1 b2 b3 b4 b5 e => up b o b2 b3 b4 b5 (hkeep b o b1 b2 b3 b4 b5 e)) (up S _ nS.1 nS.2.2.1 nS.2.2.2.1 nS.2.2.2.2.1 hS) (by omega) ⟨hG.rise, hG.above, fun j a hj => ?_⟩ hacc)
   obtain ⟨x, y, e1, e2, e3⟩ := hG.pairs j a hj
   obtain ⟨b1, b2, b3, b4⟩ := nb (List.mem_of_getElem? hj)
   exact ⟨x, y, e1, e2, up a _ b1 b2 b3 b4 e3⟩
 | succ k ih =>
   intro i h tk c acc as hk hi Z hkeep hS hacc hal hG hn0
   have hlx : i < xs.size := by omega
   have hly : i < ys.size := by omega
   have hx : xs[i]? = some xs[i] := Array.getElem?_eq_getElem hlx
   have hy : ys[i]? = some ys[i] := Array.getElem?_eq_getElem hly
   have hsz : acc.size = i := by rw [← Array.length_toList, hacc, List.length_map, hal]
   have hSl : S < h.objs.size := Heap.lt_size hS
   refine codeAny_builtin PySem.F.entry_extend_loop ?_
   rw [Around.under_plainId PySem.F.plain_extend_loop _]
   show wpAny _ A.in1 (pyNext (.ref z) >>= _) _ _ _
   refine wpAny_bind (zl_item (s := { s with heap := h, toks := tk }) D Z hSl hx hy fun h' Z' pr gr up => ?_)
   dsimp only at pr gr up ⊢
   have hS' := up S _ nS.1 nS.2.2.1 nS.2.2.2.1 nS.2.2.2.2.1 hS
   have up2 : ∀ b o, b ≠ S → h'.get? b = some o → (h'.update S (Obj.mapSeq (·.push (Value.ref h.objs.size)))).get? b = some o := fun b o hb e => (Heap.get?_update_other _ _ (Ne.symm hb)).trans e
   show wpAny _ A.in1 (updateSeq S (·.push (Value.ref h.objs.size)) >>= _) _ _ _
   refine wpAny_bind ?_
   refine wpAny_updateSeq hS' rfl (wpAny_pure ⟨plainId_quiet PySem.F.plain_extend_loop _, ih (i + 1) _ tk _ (acc.push (Value.ref h.objs.size)) (as ++ [h.objs.size]) (by omega) (by omega) (Z'.at nS up2)
     (fun b o b1 b2 b3 b4 b5 e => up2 b o b1 (up b o b2 b3 b4 b5 (hkeep b o b1 b2 b3 b4 b5 e))) (Heap.get?_update_self _ hS' rfl) (by rw [Array.toList_push, hacc, List.map_append]; rfl) (by rw [List.length_append, hal]; rfl) ⟨?_, ?_, ?_⟩ ?_⟩) (by rw [hsz]; omega) (by show (acc.push (Value.ref h.objs.size)).size ≤ sizeLine + 1; rw [Array.size_push, hsz]; omega)
   · refine List.pairwise_append.mpr ⟨hG.rise, List.pairwise_singleton _ _, fun a ha b hb => ?_⟩
     rw [List.mem_singleton.mp hb]
     exact hG.there ha
   · intro a ha
     rcases List.mem_append.mp ha with ha | ha
     · exact hG.above a ha
     · rw [List.mem_singleton.mp ha]; exact hn0
   · intro j b hj
     rcases Nat.lt_trichotomy j as.length with h1 | h1 | h1
     · rw [List.getElem?_append_left h1] at hj
       obtain ⟨x, y, e1, e2, e3⟩ := hG.pairs j b hj
       have hb := hG.above b (List.mem_of_getElem? hj)
       exact ⟨x, y, e1, e2, up2 b _ (ge_ne hb lo.1) (up b _ (ge_ne hb lo.2.1) (ge_ne hb lo.2.2.1) (ge_ne hb lo.2.2.2.1) (ge_ne hb lo.2.2.2.2) e3)⟩
     · subst h1
       have hb : h.objs.size = b := by simpa using hj
       subst hb
       exact ⟨_, _, by rw [hal]; exact hx, by rw [hal]; exact hy, up2 _ _ (Nat.ne_of_gt hSl) pr⟩
     · have hnone : (as ++ [h.objs.size])[j]? = none := List.getElem?_eq_none (by rw [List.length_append, List.length_singleton]; omega)
       rw [hnone] at hj; cases hj
   · have e : (h'.update S (Obj.mapSeq (·.push (Value.ref h.objs.size)))).get? h.objs.size = _ := up2 _ _ (Nat.ne_of_gt hSl) pr
     exact Nat.le_of_lt (Nat.lt_of_le_of_lt hn0 (Heap.lt_size e))
theorem nolen_zip : typeLookup (.type "zip") "__len__" = pure none := by rw [typeLookup_type, builtinLookup_eq_fast]; kernel_rfl
theorem nohint_zip : typeLookup (.type "zip") "__length_hint__" = pure none := by rw [typeLookup_type, builtinLookup_eq_fast]; kernel_rfl
theorem hint_zip {z : Addr} {Q : Bool → Shared → Prop} (t : s.TypeIs (.ref z) "zip") (q : Q true s) : wpAny (model prog w) A (Builtin.List.listLengthHint (.ref z)) Q E s := by
 unfold Builtin.List.listLengthHint
 exact wpAny_bind (wpAny_specialOf t nolen_zip (wpAny_bind (wpAny_specialOf t nohint_zip (wpAny_pure q))))
theorem list_of_zip {z p r i1 i2 l1 l2 : Addr} {xs ys : Array Value} {Q : Value → Shared → Prop} (hh : A.handled = none) (D : ZipApart z p r i1 i2 l1 l2) (Z : ZS b1 false s.heap z p r i1 i2 l1 l2 0 xs ys .none) (hz : min xs.size ys.size ≤ sizeLine)
   (q : ∀ h' tk acc c as, (∀ b o, b ≠ z → b ≠ r → b ≠ i1 → b ≠ i2 → s.heap.get? b = some o → h'.get? b = some o) → h'.get? s.heap.objs.size = some { cls := .type "list", dict := none, data := .seq acc c, slots := #[] } → as.length = min xs.size ys.size → ZG (s.heap.objs.size + 1) xs ys h' as → acc.toList = as.map Value.ref → Q (.ref s.heap.objs.size) { s with heap := h', toks := tk }) :
   wpAny (model prog w) A (call (.type "list") [.ref z]) Q E s := by
 have lt : ∀ {c : Addr} {o : Obj}, s.heap.get? c = some o → c < s.heap.objs.size := fun e => Heap.lt_size e
 refine callType_codes (Q₁ := fun v s1 => v = .ref s.heap.objs.size ∧ s1 = { s with heap := s.heap.push { cls := .type "list", data := .seq #[] } }) F.called_list (F.typeCall_list_1 _) F.entry_list_init (code_list_new _ ⟨rfl, rfl⟩) ?_
 rintro _ _ ⟨rfl, rfl⟩
 refine ⟨⟨_, Heap.get?_push_size _ rfl, rfl⟩, F.args_list_init_2 _ _, ?_⟩
 have eS : (s.heap.push { cls := .type "list", data := .seq #[] }).get? s.heap.objs.size = some { cls := .type "list", data := .seq #[] } := Heap.get?_push_size _ rfl
 have nz := lt Z.zz
 have np := lt Z.pp
 have nr : r < s.heap.objs.size := by obtain ⟨a, b, e⟩ := Z.rr; exact lt e
 have n1 : i1 < s.heap.objs.size := by obtain ⟨o, e, _⟩ := SIt.obj Z.a1; exact lt e
 have n2 : i2 < s.heap.objs.size := by obtain ⟨o, e, _⟩ := Z.a2; exact lt e
 have m1 : l1 < s.heap.objs.size := by obtain ⟨o, e, _⟩ := SSq.obj Z.t1; exact lt e
 have m2 : l2 < s.heap.objs.size := by obtain ⟨o, e, _⟩ := Z.t2; exact lt e
 have gt : ∀ {c : Addr}, c < s.heap.objs.size → s.heap.objs.size ≠ c := fun e => Nat.ne_of_gt e
 have same : Builtin.List.listSameRef (.ref s.heap.objs.size) (.ref z) = false := by simp [Builtin.List.listSameRef, gt nz]
 have t1 : Value.type "zip" ≠ Value.type "list" := by decide
 obtain ⟨hp, g, dr, tk, os⟩ := s
 have up : ∀ c o, hp.get? c = some o → ((hp.push { cls := .type "list", data := .seq #[] }).update hp.objs.size (Obj.mapSeq fun _ => (#[] : Array Value))).get? c = some o := fun c o e => by
   rw [Heap.get?_update_other _ _ (Nat.ne_of_gt (Heap.lt_size e))]
   exact Heap.get?_push_of_some _ e
 have eS2 := Heap.get?_update_self (Obj.mapSeq (fun _ => (#[] : Array Value))) eS rfl
 have hT : Shared.TypeIs ⟨((hp.push { cls := .type "list", data := .seq #[] }).update hp.objs.size (Obj.mapSeq fun _ => (#[] : Array Value))), g, dr, tk, os⟩ (.ref z) "zip" := ⟨_, up _ _ Z.zz, rfl⟩
 have zz2 : IsZip (Shared.heap ⟨((hp.push { cls := .type "list", data := .seq #[] }).update hp.objs.size (Obj.mapSeq fun _ => (#[] : Array Value))), g, dr, tk, os⟩) z p r .none := up _ _ Z.zz
 unfold Builtin.«list.__init__»
 wp_walk using wpAny_pyIter_zip zz2, wpAny_typeOf hT, hint_zip hT
 have nS : hp.objs.size ≠ z ∧ hp.objs.size ≠ p ∧ hp.objs.size ≠ r ∧ hp.objs.size ≠ i1 ∧ hp.objs.size ≠ i2 ∧ hp.objs.size ≠ l1 ∧ hp.objs.size ≠ l2 := ⟨gt nz, gt np, gt nr, gt n1, gt n2, gt m1, gt m2⟩
 have lo : hp.objs.size < hp.objs.size + 1 ∧ z < hp.objs.size + 1 ∧ r < hp.objs.size + 1 ∧ i1 < hp.objs.size + 1 ∧ i2 < hp.objs.size + 1 := ⟨Nat.lt_succ_self _, Nat.lt_succ_of_lt nz, Nat.lt_succ_of_lt nr, Nat.lt_succ_of_lt n1, Nat.lt_succ_of_lt n2⟩
 have eS3 := Heap.get?_update_self (Obj.mapSeq (·.push Value.none)) eS2 rfl
 have eS4 := Heap.get?_update_self (Obj.mapSeq (·.pop)) eS3 rfl
 have up4 : ∀ c o, hp.get? c = some o → ((((hp.push { cls := .type "list", data := .seq #[] }).update hp.objs.size (Obj.mapSeq fun _ => (#[] : Array Value))).update hp.objs.size (Obj.mapSeq (·.push Value.none))).update hp.objs.size (Obj.mapSeq (·.pop))).get? c = some o := fun c o e => by
   rw [Heap.get?_update_other _ _ (Nat.ne_of_gt (Heap.lt_size e)), Heap.get?_update_other _ _ (Nat.ne_of_gt (Heap.lt_size e))]
   exact up c o e
 obtain ⟨u, v, rr⟩ := Z.rr
 refine ⟨plainId_quiet F.plain_extend_loop _, ?_⟩
 refine zl_loop (s := ⟨hp, g, dr, tk, os⟩) (h₁ := hp) (A := A.in1) (n := min xs.size ys.size) (n0 := hp.objs.size + 1) hh D nS lo hz rfl .none ?_ (min xs.size ys.size) 0 _ tk _ #[] [] rfl (Nat.zero_le _) ⟨.inl ⟨rfl, up4 _ _ Z.zz⟩, up4 _ _ Z.pp, ⟨u, v, up4 _ _ rr⟩, Z.a1.at fun o e => up4 _ o e, Z.a2.at fun o e => up4 _ o e, Z.t1.at fun o e => up4 _ o e, Z.t2.at fun o e => up4 _ o e⟩ (fun b o _ _ _ _ _ e => up4 b o e) eS4 rfl rfl ⟨.nil, fun _ m => (List.not_mem_nil m).elim, fun j a hj => by simp at hj⟩ (by rw [Heap.size_update, Heap.size_update, Heap.size_update, Heap.size_push]; exact Nat.le_refl _)
 exact fun h' tk' acc c as kp e hl G ea => ⟨rfl, q h' tk' acc c as (fun b o b1 b2 b3 b4 eb => kp b o (Nat.ne_of_lt (Heap.lt_size eb)) b1 b2 b3 b4 eb) e hl G ea⟩
end
end L3
namespace L3
open PySem PySem.Spec
open PyProof.Rows hiding St
open L2
theorem lt_ne {a b n : Nat} (h : a < n) (l : n ≤ b) : a ≠ b := fun e => by omega
structure NewT (H H2 : Hp) (as : List Addr) (xs ys : List V) : Prop where
 same : Same H H2
 new : ∀ a ∈ as, H a = none
 at_ : ∀ (j : Nat) a, as[j]? = some a → ∃ x y, xs[j]? = some x ∧ ys[j]? = some y ∧ H2 a = some (.tup [x, y])
def tLZ (K : PySem.W.Frag) (b1 : Bool) (t : TA) : TE := fun σ H Q => t σ H fun vs H1 => ∃ a b xs ys, vs = [.ref a, .ref b] ∧ SqS K b1 H1 a xs ∧ SqT K H1 b ys ∧ ∀ (H2 : Hp) (as : List Addr) (p : Addr), NewT H1 H2 as xs ys → as.length = min xs.length ys.length → H1 p = none → H2 p = none → Q (.ref p) (upd H2 p (.lst (as.map V.ref)))
theorem vals_at {xs : List V} {us : List Value} (r : Vals xs us) : ∀ {i : Nat} {u : Value}, us[i]? = some u → ∃ x, xs[i]? = some x ∧ RelV x u := by
 induction r with
 | nil => intro i u e; simp at e
 | cons h t ih =>
   intro i u e
   cases i with
   | zero => cases e; exact ⟨_, rfl, h⟩
   | succ i =>
     obtain ⟨x, h1, h2⟩ := ih (i := i) (by simpa using e)
     exact ⟨x, by simpa using h1, h2⟩
section
variable {X : Cx} {pins : List (Addr × Obj)} {σ : L2.St} {s : Shared} {h' : Heap} {tk : Nat}
theorem adopt_all {n0 : Nat} {H0 : Hp} {xs ys : List V} {us vs : List Value} (I0 : Inv X pins σ H0 s) (le : s.heap.objs.size ≤ n0) (rx : Vals xs us) (ry : Vals ys vs) :
   ∀ (as : List Addr) (j0 : Nat) (H : Hp), as.Pairwise (· < ·) → (∀ a ∈ as, n0 ≤ a ∧ H a = none) → (∀ (j : Nat) a, as[j]? = some a → ∃ x y, us[j0 + j]? = some x ∧ vs[j0 + j]? = some y ∧ IsPair h' a x y) → Inv X pins σ H { s with heap := h', toks := tk } →
     ∃ H2, Inv X pins σ H2 { s with heap := h', toks := tk } ∧ Same H H2 ∧ (∀ b, b ∉ as → H2 b = H b) ∧ ∀ (j : Nat) a, as[j]? = some a → ∃ x y, xs[j0 + j]? = some x ∧ ys[j0 + j]? = some y ∧ H2 a = some (.tup [x, y])
 | [], j0, H, _, _, _, I => ⟨H, I, Same.refl _, fun _ _ => rfl, fun j a e => by simp at e⟩
 | a :: as, j0, H, pw, hn, hp, I => by
   obtain ⟨x, y, hx, hy, pr⟩ := hp 0 a rfl
   have fp : FpOk X pins H a := I0.fpOk (Nat.le_trans le (hn a (by simp)).1) (hn a (by simp)).2
   obtain ⟨x', hx', rx'⟩ := vals_at rx hx
   obtain ⟨y', hy', ry'⟩ := vals_at ry hy
   have new : ObjOk X.prog X.w (upd H a (.tup [x', y'])) h' a (.tup [x', y']) := ⟨by show 2 ≤ sizeLine; rw [sizeLine_eq]; decide, [x, y], .cons rx' (.cons ry' .nil), _, pr, rfl, 0, rfl⟩
   have I1 : Inv X pins σ (upd H a (.tup [x', y'])) { s with heap := h', toks := tk } := I.adopt (t' := tk) fp (fun b u _ e => e) new
   have lt : ∀ b ∈ as, a < b := fun b hb => (List.pairwise_cons.mp pw).1 b hb
   obtain ⟨H2, I2, sm, ot, at_⟩ := adopt_all I0 le rx ry as (j0 + 1) _ (List.pairwise_cons.mp pw).2 (fun b hb => ⟨(hn b (List.mem_cons_of_mem _ hb)).1, by rw [upd_ne (Nat.ne_of_gt (lt b hb))]; exact (hn b (List.mem_cons_of_mem _ hb)).2⟩) (fun j b e => by
     obtain ⟨x, y, h1, h2, h3⟩ := hp (j + 1) b (by simpa using e)
     exact ⟨x, y, by rw [show j0 + 1 + j = j0 + (j + 1) by omega]; exact h1, by rw [show j0 + 1 + j = j0 + (j + 1) by omega]; exact h2, h3⟩) I1
   refine ⟨H2, I2, fun b o e => sm b o (by rw [upd_ne (show b ≠ a from fun z => by rw [z, (hn a (by simp)).2] at e; cases e)]; exact e), fun b hb => ?_, fun j b e => ?_⟩
   · rw [ot b fun z => hb (List.mem_cons_of_mem _ z), upd_ne fun z => hb (by rw [z]; simp)]
   · cases j with
     | zero =>
       cases e
       exact ⟨x', y', hx', hy', by rw [ot a fun z => Nat.lt_irrefl _ (lt a z)]; exact upd_same⟩
     | succ j =>
       obtain ⟨x, y, h1, h2, h3⟩ := at_ j b (by simpa using e)
       exact ⟨x, y, by rw [show j0 + (j + 1) = j0 + 1 + j by omega]; exact h1, by rw [show j0 + (j + 1) = j0 + 1 + j by omega]; exact h2, h3⟩
end
theorem pe_listzip {X : Cx} (b1 : Bool) {a b : Expr} {ta : TA} {p1 p2 p3 p4 : Pos} (calm : X.A.handled = none) (gl : Gl X "list") (ml : X.mg "list" = none) (gz : Gl X "zip") (mz : X.mg "zip" = none) (ha : PA X [a, b] ta)
   (s1 : starEach [.Call (.Name "zip" p2) [a, b] [] p3] X.env = (false, eval (.Call (.Name "zip" p2) [a, b] [] p3) X.env) :: starEach [] X.env := by rfl) (hs : starEach [a, b] X.env = (false, eval a X.env) :: starEach [b] X.env := by rfl) (hp : (backTo p3 (starEach [b] X.env)).any (·.1) = false := by rfl) :
   PE X (.Call (.Name "list" p1) [.Call (.Name "zip" p2) [a, b] [] p3] [] p4) (tLZ X.K b1 ta) := by
 intro pins s σ H Q I h
 refine wpAny_Call_Name_kw (ld_blt I gl ml (u := .type "list") rfl ?_)
 refine PyProof.Rows.callWith_type1 ?_ s1
 rw [s1]
 show wpAny _ _ (spliced ((false, eval (.Call (.Name "zip" p2) [a, b] [] p3) X.env) :: [])) _ _ s
 refine Calls.spliced_cons ?_
 refine Call_ (ld_blt I gz mz bt_zip (PyProof.Rows.callWith_type1 (thn (ha p3 pins s σ H _ I h) fun us s1 ⟨vs, H1, I1, r1, q1⟩ => ?_) hs hp))
 obtain ⟨a, b, xs, ys, e, qa, qb, q⟩ := q1
 subst e
 obtain ⟨u, v, rfl, ru, rv⟩ := Vals.two r1
 obtain rfl : u = Value.ref a := ru
 obtain rfl : v = Value.ref b := rv
 obtain ⟨us, ru, tu, zu⟩ := Inv.sqs I1 qa
 obtain ⟨vs, rv, tv, zv⟩ := I1.tuple qb
 have lu := ru.length
 have lv := rv.length
 have la : a < s1.heap.objs.size := by obtain ⟨o, e, _⟩ := SSq.obj tu; exact Heap.lt_size e
 have lb : b < s1.heap.objs.size := by obtain ⟨o, e, _⟩ := tv; exact Heap.lt_size e
 refine call_zs (b1 := b1) (b2 := false) tu tv fun h1 S up => Calls.spliced_nil ?_
 have sz : s1.heap.objs.size + 4 < h1.objs.size := Heap.lt_size S.zz
 refine list_of_zip (s := { s1 with heap := h1 }) calm (zs_apart _ _ _ la lb) S (by simp; omega) fun h' tk acc c as kp e hl G ea => ?_
 dsimp only at kp e hl G ea ⊢
 have kp2 : ∀ b o, s1.heap.get? b = some o → h'.get? b = some o := fun b o eb => by
   have := Heap.lt_size eb
   exact kp b o (lt_ne this (Nat.le_add_right _ _)) (lt_ne this (Nat.le_add_right _ _)) (lt_ne this (Nat.le_refl _)) (lt_ne this (Nat.le_add_right _ _)) (up b o eb)
 have I2 : Inv X pins σ H1 { s1 with heap := h', toks := tk } := I1.kept (t' := tk) kp2
 have nn : ∀ a, s1.heap.objs.size ≤ a → H1 a = none := fun a z => I1.hok.fresh z
 have ab : ∀ a ∈ as, s1.heap.objs.size ≤ a := fun a m => by have := G.above a m; omega
 obtain ⟨H2, I3, sm, ot, at_⟩ := adopt_all (n0 := s1.heap.objs.size) I1 (Nat.le_refl _) ru rv as 0 H1 G.rise (fun a m => ⟨ab a m, nn a (ab a m)⟩) (fun j a ej => by
   obtain ⟨x, y, g1, g2, g3⟩ := G.pairs j a ej
   exact ⟨x, y, by simpa using g1, by simpa using g2, g3⟩) I2
 have np : h1.objs.size ∉ as := fun m => by have := G.above _ m; omega
 have n1 : H1 h1.objs.size = none := nn _ (by omega)
 have n2 : H2 h1.objs.size = none := by rw [ot _ np]; exact n1
 have fp : FpOk X pins H2 h1.objs.size := I1.fpOk (by omega) n2
 have vr : Vals (as.map V.ref) acc.toList := by
   rw [ea]
   clear ea at_ ot G hl ab np
   induction as with
   | nil => exact .nil
   | cons a as ih => exact .cons rfl ih
 have hz : as.length ≤ sizeLine := by rw [hl]; simp; omega
 have new : ObjOk X.prog X.w (upd H2 h1.objs.size (.lst (as.map V.ref))) h' h1.objs.size (.lst (as.map V.ref)) := ⟨by rw [List.length_map]; exact hz, acc.toList, c, vr, by simpa using e⟩
 exact ⟨.ref h1.objs.size, _, I3.adopt (t' := tk) fp (fun b u _ e => e) new, rfl, q H2 as _ ⟨sm, fun a m => nn a (ab a m), fun j a ej => by simpa using at_ j a ej⟩ (by rw [hl]; simp; omega) n1 n2⟩
section
variable {K : PySem.W.Frag} {O : Ob}
theorem zip_is {H2 : Hp} : ∀ {as : List Addr} {xs ys : List V} {ds es : List PyData}, IsAll K (unM O) H2 xs ds → IsAll K (unM O) H2 ys es → as.length = min xs.length ys.length → (∀ (j : Nat) a, as[j]? = some a → ∃ x y, xs[j]? = some x ∧ ys[j]? = some y ∧ H2 a = some (.tup [x, y])) → IsAll K (unM O) H2 (as.map V.ref) (zipD ds es)
 | as, [], _, _, _, .nil, _, hl, _ => by
   have : as = [] := List.eq_nil_of_length_eq_zero (by rw [hl]; simp)
   subst this
   exact .nil
 | as, _ :: _, [], _, _, .cons _ _, .nil, hl, _ => by
   have : as = [] := List.eq_nil_of_length_eq_zero (by rw [hl]; simp)
   subst this
   exact .nil
 | [], _ :: _, _ :: _, _, _, .cons _ _, .cons _ _, hl, _ => by simp [Nat.succ_min_succ] at hl
 | a :: as, x :: xs, y :: ys, d :: ds, e :: es, .cons h1 t1, .cons h2 t2, hl, hp => by
   obtain ⟨x', y', e1, e2, q⟩ := hp 0 a rfl
   cases e1
   cases e2
   exact .cons (.tuple (.of q) (.cons h1 (.cons h2 .nil))) (zip_is t1 t2 (by rw [List.length_cons, List.length_cons, List.length_cons, Nat.succ_min_succ] at hl; omega) fun j b ej => by
     obtain ⟨x, y, g1, g2, g3⟩ := hp (j + 1) b (by simpa using ej)
     exact ⟨x, y, by simpa using g1, by simpa using g2, g3⟩)
def lzlD (g : DA) : DE := fun ρ Q => g ρ fun vs => ∃ ds es, vs = [.list ds, .tuple es] ∧ flats ds = true ∧ flats es = true ∧ Q (.n (zipD ds es))
theorem ed_listzipL {t : TA} {g : DA} (h : AD K O t g) : ED K O (tLZ K true t) (lzlD g) := fun σ H ρ Q Qd S hf k => by
 refine h σ H ρ _ _ S hf fun vs H1 ds st is ⟨es, fs, e, f1, f2, q⟩ => ?_
 subst e
 cases is with
 | cons i1 is =>
   cases is with
   | cons i2 is =>
     cases is
     cases i1 with
     | @list a xs _ fa ha hs =>
       cases i2 with
       | @tuple b ys _ hb ht =>
         refine ⟨a, b, xs, ys, rfl, SqL.of ha, hb, fun H2 as p N hl n1 n2 => ?_⟩
         have st2 : Stp O H1 H2 := .same S.ok N.same
         have nM : ¬ O.M p := fun m => by obtain ⟨o, z⟩ := S.ok.here H1 p (st.p S.p) m; rw [n1] at z; cases z
         have st3 : Stp O H2 (upd H2 p (.lst (as.map V.ref))) := .new S.ok n2 _
         have is2 := zip_is (hs.stp st2 (fun _ f => f) (fun _ f => f)) (ht.stp st2 (fun _ f => f) (fun _ f => f)) hl N.at_
         exact k _ _ (.n (zipD es fs)) ((st.trans st2).trans st3) ⟨p, _, rfl, st.s.free nM n1, upd_same, is2.stp st3 (fun _ f => f) (fun _ f => f)⟩ q
end
section
variable {ι κ : Type} {P : Program} {w : World} {K : PySem.W.Frag} {mg : Str → Option Value} {base : Heap} {k : Nat} {X : ι → Cx} {O : κ → Ob} {a b : Expr} {ga : DA} {p1 p2 p3 p4 : Pos}
theorem e_listzipL (C : Ctx3 P w K mg base k X) (B : Blt mg) (ha : A3 K X O [a, b] ga) (hg : ∀ i, Gl (X i) "list" := by intro i; rfl) (hz : ∀ i, Gl (X i) "zip" := by intro i; rfl) (s1 : ∀ i, starEach [.Call (.Name "zip" p2) [a, b] [] p3] (X i).env = (false, eval (.Call (.Name "zip" p2) [a, b] [] p3) (X i).env) :: starEach [] (X i).env := by intro i; rfl)
   (hs : ∀ i, starEach [a, b] (X i).env = (false, eval a (X i).env) :: starEach [b] (X i).env := by intro i; rfl) (hp : ∀ i, (backTo p3 (starEach [b] (X i).env)).any (·.1) = false := by intro i; rfl) : E3 K X O (.Call (.Name "list" p1) [.Call (.Name "zip" p2) [a, b] [] p3] [] p4) (lzlD ga) := let ⟨_, q, d⟩ := ha;
 ⟨_, fun i => by have h := pe_listzip true (p1 := p1) (p2 := p2) (p3 := p3) (p4 := p4) (C.room i).hd (hg i) (by rw [C.hmg]; exact B.list) (hz i) (by rw [C.hmg]; exact B.zip) (q i) (s1 i) (hs i) (hp i); rw [C.hK] at h; exact h, fun j => ed_listzipL (d j)⟩
end
end L3
namespace L3
open PySem PySem.Spec
open PyProof.Rows hiding St
open L2
section
variable {prog : Program} {w : World} {A : Around} {E : Value → Shared → Prop} {s : Shared}
theorem en_item {e it l : Addr} {i : Nat} {zs : Array Value} {x old : Value} {Q : Value → Shared → Prop} (G : IsEnum s.heap e it i old) (A1 : s.heap.IsTupleIter it l i) (T1 : s.heap.IsTuple l zs) (hx : zs[i]? = some x) (ne : e ≠ it)
   (q : ∀ h', IsEnumOut h' e it ((i : Int) + 1) x s.heap.objs.size → h'.IsTupleIter it l (i + 1) → h'.get? s.heap.objs.size = some { cls := .type "tuple", data := .seq #[.int i s.toks, x] } → (∀ b o, b ≠ e → b ≠ it → s.heap.get? b = some o → h'.get? b = some o) → Q (.ref s.heap.objs.size) { s with heap := h', toks := s.toks + 1 }) :
   wpAny (model prog w) A (Builtin.«enumerate.__next__» ⟨[.ref e], []⟩) (fun fin s' => ∃ v, fin = .done (.ret v) ∧ Q v s') E s := by
 obtain ⟨hp, gn, dr, tk, os⟩ := s
 refine wpAny_bind (m := field (.ref e) 2) (wpAny_field G rfl (x := .ref it) rfl (wpAny_bind (nx_item A1 T1 hx fun ha A1a sa => ?_)))
 replace sa : Heap.SameBut it hp ha := sa
 have Ga : IsEnum ha e it i old := (sa.2 e ne).trans G
 refine wpAny_bind (m := field (.ref e) 3) (wpAny_field Ga rfl (x := rawInt i) rfl (wpAny_bind (m := field (.ref e) 4) (wpAny_field Ga rfl (x := .none) rfl (wpAny_bind (m := mkInt i) (wpAny_mkInt ?_)))))
 refine wpAny_bind (m := setField (.ref e) 3 (rawInt ((i : Int) + 1))) (wpAny_setField_rec Ga (by simp) fun hb Gb sb => ?_)
 replace sb : Heap.SameBut e ha hb := sb
 replace Gb : IsEnum hb e it ((i : Int) + 1) old := Gb
 refine wpAny_bind (m := setField (.ref e) 4 .none) (wpAny_setField_rec Gb (by simp) fun hc Gc sc => ?_)
 replace sc : Heap.SameBut e hb hc := sc
 replace Gc : IsEnum hc e it ((i : Int) + 1) old := Gc
 refine wpAny_bind (m := newTuple [.int i tk, x]) (wpAny_newTuple ?_)
 have sz3 : hc.objs.size = hp.objs.size := by rw [sc.1, sb.1, sa.1]
 have el : e < hp.objs.size := Heap.lt_size G
 have Gd : IsEnum (hc.push { cls := .type "tuple", data := .seq #[.int i tk, x] }) e it ((i : Int) + 1) old := Heap.get?_push_of_some _ Gc
 have td : (hc.push { cls := .type "tuple", data := .seq #[.int i tk, x] }).get? hp.objs.size = some { cls := .type "tuple", data := .seq #[.int i tk, x] } := by rw [← sz3]; exact Heap.get?_push_size _ rfl
 have kd : ∀ b o, b ≠ e → b ≠ it → hp.get? b = some o → (hc.push { cls := .type "tuple", data := .seq #[.int i tk, x] }).get? b = some o := fun b o n1 n2 g => Heap.get?_push_of_some _ (sc.extBut b o n1 (sb.extBut b o n1 (sa.extBut b o n2 g)))
 have A1d : (hc.push { cls := .type "tuple", data := .seq #[.int i tk, x] }).IsTupleIter it l (i + 1) := A1a.at fun o g => Heap.get?_push_of_some _ (sc.extBut _ o (Ne.symm ne) (sb.extBut _ o (Ne.symm ne) g))
 refine wpAny_bind (m := Builtin.SmallTypes.ownedTupleIsFree (.ref e)) ?_
 rw [sz3]
 generalize hc.push { cls := .type "tuple", data := .seq #[.int i tk, x] } = hd at Gd td kd A1d
 unfold Builtin.SmallTypes.ownedTupleIsFree; refine wpAny_bind (wpAny_field Gd rfl (x := .none) rfl (wpAny_pure ?_)); simp only [if_true]
 refine wpAny_bind (wpAny_rule (wpAny_bind (wpAny_field Gd rfl (x := old) rfl (wpAny_bind (wpAny_setField_rec Gd (by simp) fun hf Gf sf => ?_)))))
 replace sf : Heap.SameBut e hd hf := sf
 replace Gf : IsEnum hf e it ((i : Int) + 1) x := Gf
 refine wpAny_bind (m := Builtin.SmallTypes.ownedTupleHandOut (.ref e) (.ref hp.objs.size)) ?_
 unfold Builtin.SmallTypes.ownedTupleHandOut; refine wpAny_bind (wpAny_setField_rec Gf (by simp) fun hg Gg sg => ?_)
 replace sg : Heap.SameBut e hf hg := sg
 replace Gg : IsEnumOut hg e it ((i : Int) + 1) x hp.objs.size := Gg
 refine wpAny_setField_rec Gg (by simp) fun hh Gh sh => wpAny_bind (wpAny_letGo (wpAny_pure ⟨_, rfl, ?_⟩))
 replace sh : Heap.SameBut e hg hh := sh
 have up : ∀ b o, b ≠ e → hd.get? b = some o → hh.get? b = some o := fun b o n g => sh.extBut b o n (sg.extBut b o n (sf.extBut b o n g))
 exact q hh Gh (A1d.at fun o g => up _ o (Ne.symm ne) g) (up _ _ (Nat.ne_of_gt el) td) fun b o n1 n2 g => up b o n1 (kd b o n1 n2 g)
theorem next_en {e it l : Addr} {i : Nat} {zs : Array Value} {x old : Value} {Q : Option Value → Shared → Prop} (G : IsEnum s.heap e it i old) (A1 : s.heap.IsTupleIter it l i) (T1 : s.heap.IsTuple l zs) (hx : zs[i]? = some x) (ne : e ≠ it)
   (q : ∀ h', IsEnumOut h' e it ((i : Int) + 1) x s.heap.objs.size → h'.IsTupleIter it l (i + 1) → h'.get? s.heap.objs.size = some { cls := .type "tuple", data := .seq #[.int i s.toks, x] } → (∀ b o, b ≠ e → b ≠ it → s.heap.get? b = some o → h'.get? b = some o) → Q (some (.ref s.heap.objs.size)) { s with heap := h', toks := s.toks + 1 }) : wpAny (model prog w) A (pyNext (.ref e)) Q E s := by
 have T : s.TypeIs (.ref e) "enumerate" := ⟨_, G, rfl⟩
 unfold pyNext; exact wpAny_bind (wpAny_attempt (wpAny_callSpecial?_slot (name := Str.ofString "__next__") T F.slot_enumerate_next (wpAny_call_entry F.slot_enumerate_next T F.entry_enumerate_next (en_item G A1 T1 hx ne fun h' a b c d => wpAny_pure (q h' a b c d)) (F.args_enumerate_next_1 _))))
theorem next_ee {e it l : Addr} {i : Nat} {zs : Array Value} {old : Value} {Q : Option Value → Shared → Prop} (hh : A.handled = none) (G : IsEnum s.heap e it i old) (A1 : s.heap.IsTupleIter it l i) (T1 : s.heap.IsTuple l zs) (hx : zs[i]? = none) (ne : e ≠ it)
   (q : ∀ h', (∀ b o, b ≠ it → s.heap.get? b = some o → h'.get? b = some o) → Q none { s with heap := h' }) : wpAny (model prog w) A (pyNext (.ref e)) Q E s := by
 have T : s.TypeIs (.ref e) "enumerate" := ⟨_, G, rfl⟩
 unfold pyNext; refine wpAny_bind (wpAny_attempt (wpAny_callSpecial?_slot (name := Str.ofString "__next__") T F.slot_enumerate_next (wpAny_call_entry F.slot_enumerate_next T F.entry_enumerate_next ?_ (F.args_enumerate_next_1 _))))
 refine wpAny_bind (m := field (.ref e) 2) (wpAny_field G rfl (x := .ref it) rfl (wpAny_bind (nx_end hh A1 T1 hx fun h' x sb ⟨o, g, c⟩ => ?_)))
 exact wpAny_bind (wpAny_isInstance (T := "StopIteration") (b := true) ⟨o, g, c⟩ isSubtype_stop (wpAny_pure (q _ fun b o n g => sb b o n g)))
theorem new_en (l : Addr) (zs : Array Value) (n : Nat) (dct : Option Addr) (sl : Array (Option Value)) : Meets (Builtin.«enumerate.__new__» ⟨[.type "enumerate", .ref l], []⟩) (fun _ R s => s.heap.get? l = some { cls := .type "tuple", dict := dct, data := .seq zs n, slots := sl } ∧
   R (.ok (.ret (.ref (zq1 false s.heap l).objs.size))) { s with heap := (zq1 false s.heap l).push { cls := .type "enumerate", data := .fields #[.none, .bool false, .ref s.heap.objs.size, rawInt 0, .none, .none] } }) :=
 .of_wp fun prog w A R s h => by
   obtain ⟨hp, g, d, tk, os⟩ := s; obtain ⟨a, q⟩ := h
   have sub := sub_enumerate
   have tp : Heap.IsTuple (Shared.heap ⟨hp, g, d, tk, os⟩) l zs := ⟨_, a, rfl, n, rfl⟩
   wp_walk using AutoSeq1.wpAny_loadPart' a
   refine wpAny_stack_any fun st => wpAny_pure ?_
   split
   · rename_i c _ _ _ _ _
     cases (c == Value.type "enumerate") <;> (wp_walk using AutoSeq1.wpAny_loadPart' a, wpAny_pyIter_tuple tp; exact ⟨_, rfl, q⟩)
   · wp_walk using AutoSeq1.wpAny_loadPart' a, wpAny_pyIter_tuple tp
     exact ⟨_, rfl, q⟩
theorem call_en {l : Addr} {zs : Array Value} {Q : Value → Shared → Prop} (tp : s.heap.IsTuple l zs)
   (q : ∀ h', IsEnum h' (s.heap.objs.size + 1) s.heap.objs.size 0 .none → h'.IsTupleIter s.heap.objs.size l 0 → (∀ b o, s.heap.get? b = some o → h'.get? b = some o) → Q (.ref (s.heap.objs.size + 1)) { s with heap := h' }) :
   wpAny (model prog w) A (call (.type "enumerate") [.ref l]) Q E s := by
 obtain ⟨⟨c, dct, dt, sl⟩, a, hc, n, hd⟩ := tp
 replace hc : c = .type "tuple" := hc
 replace hd : dt = .seq zs n := hd
 subst hc hd
 refine callType_new F.called_enumerate (by decide) (F.typeCall_enumerate_1 _) (F.newCall_enumerate_1 _) (fun obj => F.args_object_init_2 obj _) F.entry_enumerate_new (new_en l zs n dct sl) ⟨a, ?_⟩
 have n1 : (zq1 false s.heap l).objs.size = s.heap.objs.size + 1 := Heap.size_push ..
 have e2 : ((zq1 false s.heap l).push { cls := .type "enumerate", data := .fields #[.none, .bool false, .ref s.heap.objs.size, rawInt 0, .none, .none] }).get? (zq1 false s.heap l).objs.size = some _ := Heap.get?_push_size _ rfl
 show _ ∧ _
 rw [n1] at e2 ⊢
 exact ⟨⟨_, e2, rfl⟩, q _ e2 ⟨_, Heap.get?_push_of_some _ (Heap.get?_push_size _ rfl), rfl, rfl⟩ fun b o g => Heap.get?_push_of_some _ (Heap.get?_push_of_some _ g)⟩
end
def Itet (K : PySem.W.Frag) (l : Addr) : It :=
 ⟨fun i H => ∃ xs x, SqT K H l xs ∧ xs[i]? = some x, fun i H x H' => ∃ a y, H a = none ∧ (∀ xs, SqT K H l xs → xs[i]? = some y) ∧ x = .ref a ∧ H' = upd H a (.tup [.int (i : Nat), y]), fun i H => ∃ xs, SqT K H l xs ∧ xs.length ≤ i⟩
theorem turn_enumT {P : Program} {w : World} {K : PySem.W.Frag} {elts : List Expr} {x1 : Nat} {pos : Pos} (l it e : Addr) (ne : e ≠ it) :
   Turn P w K (.Tuple elts x1 pos) (Itet K l) [e, it] e (fun i h => (∃ old, IsEnum h e it i old) ∧ h.IsTupleIter it l i) where
 mem := by simp
 obj := fun i h st b hb => by
   obtain ⟨⟨old, g⟩, o, g2, _, d⟩ := st
   simp only [List.mem_cons, List.not_mem_nil, or_false] at hb
   rcases hb with rfl | rfl
   · exact ⟨_, g, fun v z => by cases z⟩
   · exact ⟨o, g2, fun v z => by rw [d] at z; cases z⟩
 keep := fun i h h' ⟨⟨old, g⟩, a⟩ k => ⟨⟨old, k e (by simp) _ g⟩, a.at fun o g => k it (by simp) o g⟩
 item := by
   intro X hP hw hK hc i pins s σ H E I hf st hg
   subst hP hw hK
   obtain ⟨xs, x, q1, hx⟩ := hg
   obtain ⟨us, ru, tu, _⟩ := I.tuple q1
   obtain ⟨u, hu, ru⟩ := ru.get hx
   obtain ⟨⟨old, G⟩, A1⟩ := st
   have lt : ∀ b ∈ [e, it], b ≠ s.heap.objs.size := fun b hb z => by
     have : b < s.heap.objs.size := by
       obtain ⟨o, g2, _⟩ := A1
       simp only [List.mem_cons, List.not_mem_nil, or_false] at hb
       rcases hb with rfl | rfl
       · exact Heap.lt_size G
       · exact Heap.lt_size g2
     exact Nat.lt_irrefl _ (z ▸ this)
   refine next_en G A1 tu (x := u) (by simpa using hu) ne fun h1 G1 A2 hp up => ⟨_, rfl, ?_⟩
   refine wpAny_letOwnedTupleGo_enum G1 fun h2 G2 sb => ?_
   have up2 : ∀ b o, b ∉ [e, it] → s.heap.get? b = some o → h2.get? b = some o := fun b o hb g => by
     simp only [List.mem_cons, List.not_mem_nil, or_false, not_or] at hb
     exact (sb.2 b hb.1).trans (up b o hb.1 hb.2 g)
   have P2 : h2.get? s.heap.objs.size = some { cls := .type "tuple", data := .seq #[.int i s.toks, u] } := (sb.2 _ (Ne.symm (lt e (by simp)))).trans hp
   have sL := sizeLine_eq
   refine ⟨.ref s.heap.objs.size, _, inv_turnN (s := s) (t' := s.toks + 1) I hf up2 (Nat.le_refl _) (o := .tup [.int (i : Nat), x]) ⟨by show 2 ≤ sizeLine; omega, [.int i s.toks, u], .cons ⟨_, rfl⟩ (.cons ru .nil), ⟨_, P2, rfl, _, rfl⟩⟩, rfl, ⟨_, x, I.hok.fresh (Nat.le_refl _), fun zs hz => by rw [I.tuple_inj hz q1]; exact hx, rfl, rfl⟩, ⟨⟨u, ?_⟩, A2.at fun o g => (sb.2 it (Ne.symm ne)).trans g⟩, fun b hb => ?_⟩
   · have ei : ((i + 1 : Nat) : Int) = (i : Int) + 1 := by omega
     rw [ei]
     exact G2
   · rw [upd_ne (lt b hb)]
     exact (hf b hb).1
 done := by
   intro X hP hw hK hc i pins s σ H E I hf st hg
   subst hP hw hK
   obtain ⟨xs, q1, hx⟩ := hg
   obtain ⟨us, ru, tu, _⟩ := I.tuple q1
   have lu := ru.length
   obtain ⟨⟨old, G⟩, A1⟩ := st
   exact next_ee (I.ok.hd hc) G A1 tu (by simp; omega) ne fun h1 up => ⟨rfl, inv_turnL (t' := s.toks) I hf fun b o hb g => up b o (fun z => hb (by simp [z])) g⟩
 self := fun _ _ _ _ _ st h => let ⟨old, g⟩ := st.1; wpAny_pyIter_enum g h
def iEnumT (K : PySem.W.Frag) (t : TE) : TI := fun σ H R => t σ H fun v H1 => ∃ a, v = .ref a ∧ (∃ xs, SqT K H1 a xs) ∧ R (Itet K a) H1
theorem pi_enumT {X : Cx} {elts : List Expr} {x1 : Nat} {pos p1 p2 : Pos} {l : Expr} {tl : TE} (gE : Gl X "enumerate") (mE : X.mg "enumerate" = none) (hl : PE X l tl) (s1 : starEach [l] X.env = (false, eval l X.env) :: starEach [] X.env := by rfl) : PI X (.Tuple elts x1 pos) (.Call (.Name "enumerate" p1) [l] [] p2) (iEnumT X.K tl) := by
 intro pins s σ H R I h
 refine wpAny_Call_Name_kw (ld_blt I gE mE bt_enumerate ?_)
 refine PyProof.Rows.callWith_type1 ?_ s1
 rw [s1]
 show wpAny _ _ (spliced ((false, eval l X.env) :: [])) _ _ s
 refine Calls.spliced_cons (thn (hl pins s σ H _ I h) fun u s' ⟨y, H1, I1, r1, a, ey, ⟨xs, hq⟩, q⟩ => Calls.spliced_nil ?_)
 subst ey
 cases r1
 obtain ⟨us, ru, tu, _⟩ := I1.tuple hq
 refine call_en tu fun h' he hi kp => wpAny_pyIter_enum he ?_
 refine ⟨s'.heap.objs.size + 1, [s'.heap.objs.size + 1, s'.heap.objs.size], _, Itet X.K a, H1, rfl, I1.kept (t' := s'.toks) kp, turn_enumT a s'.heap.objs.size (s'.heap.objs.size + 1) (Nat.succ_ne_self _), ⟨⟨_, he⟩, hi⟩, fun b hb => ?_, q⟩
 have le : s'.heap.objs.size ≤ b := by
   simp only [List.mem_cons, List.not_mem_nil, or_false] at hb
   rcases hb with rfl | rfl
   · exact Nat.le_succ _
   · exact Nat.le_refl _
 exact I1.fpOk le (I1.hok.fresh le)
section
variable {K : PySem.W.Frag} {O : Ob}
def srcET (f : DE) : DI := fun ρ Q => f ρ fun r => ∃ ds, r.d = .tuple ds ∧ flats ds = true ∧ Q true (enumD ds)
theorem src_enumT {t : TE} {f : DE} (h : ED K O t f) : SrcS K O (iEnumT K t) (srcET f) := fun σ H ρ R Qd S hf k => by
 refine h σ H ρ _ _ S hf fun v H1 r st o1 ⟨ds, e, fl, q⟩ => ?_
 have i1 := o1.is S.ok S.p
 rw [e] at i1
 cases i1 with
 | tuple ha hs =>
   rename_i a xs
   refine ⟨a, rfl, ⟨xs, ha⟩, k (Itet K a) H1 (enumD ds) (fun _ => False) true ⟨st, fun b hb => hb.elim, fun H2 i kb t2 hi => ?_, fun H2 i d kb t2 hd c => ?_⟩ (fun z b hb => hb.elim) q⟩
   · rw [enumD_len] at hi
     exact ⟨xs, SqT.stay t2 ha, by rw [hs.length]; exact hi⟩
   · obtain ⟨x, h1, rfl⟩ := enumD_get hd
     have fx := flats_at fl h1
     obtain ⟨u, hu, iu⟩ := item_at (O := O) hs h1 t2 (.inl fx)
     have q1 : SqT K H2 a xs := SqT.stay t2 ha
     refine ⟨⟨xs, u, q1, hu⟩, fun w H3 ⟨c', u', hc', e1, ex, e3⟩ => ?_⟩
     have sm : Same H2 H3 := by rw [e3]; exact L3.same_new hc' _
     subst ex
     have e1 := e1 xs q1
     rw [hu] at e1
     cases e1
     have fl2 : flat (.tuple [.int (i : Nat), x]) = true := by show (true && (flat x && true)) = true; rw [fx]; rfl
     refine ⟨sm, .tuple (xs := [.int (i : Nat), u]) (.inl (.inl (by rw [e3]; exact upd_same))) (.cons (.int _) (.cons (iu.to (fun c zs f q => ⟨⟨f.1, .inl fl2⟩, sm _ _ q⟩) fun c zs q => ?_) .nil))⟩
     rcases q with (q | ⟨ob, q⟩) | q
     · exact .inl (.inl (sm _ _ q))
     · exact .inl (.inr ⟨ob, sm _ _ q⟩)
     · exact .inr q
end
section
variable {ι κ : Type} {P : Program} {w : World} {K : PySem.W.Frag} {mg : Str → Option Value} {base : Heap} {k : Nat} {X : ι → Cx} {O : κ → Ob} {a : Expr} {fa : DE} {pos p1 p2 : Pos} {elts : List Expr} {x1 : Nat}
theorem i_enumT (C : Ctx3 P w K mg base k X) (B : Blt mg) (ha : E3 K X O a fa) (hg : ∀ i, Gl (X i) "enumerate" := by intro i; rfl) (hs : ∀ i, starEach [a] (X i).env = (false, eval a (X i).env) :: starEach [] (X i).env := by intro i; rfl) : I3 K X O (.Tuple elts x1 pos) (.Call (.Name "enumerate" p1) [a] [] p2) (srcET fa) :=
 let ⟨_, q, d⟩ := ha; ⟨iEnumT K _, fun i => by have h := pi_enumT (elts := elts) (x1 := x1) (pos := pos) (p1 := p1) (p2 := p2) (hg i) (by rw [C.hmg]; exact B.enumerate) (q i) (hs i); rw [C.hK] at h; exact h, fun j => src_enumT (d j)⟩
end
end L3
namespace L3
open PySem PySem.Spec
open PyProof.Rows hiding St
open L2
section
variable {K : PySem.W.Frag} {O : Ob} {H₀ H H' : Hp} {A : Nat → Addr → Prop} {σ : St} {ρ : DSt}
def reg (A : Nat → Addr → Prop) (i : Nat) (W : Addr → Prop) : Nat → Addr → Prop := fun j b => (j ≠ i ∧ A j b) ∨ (j = i ∧ W b)
theorem Rep.tstay {i : Nat} (r : Rep K O H₀ A H σ ρ) (stay : ∀ b u, H b = some u → ¬ A i b → H' b = some u) : TupStay H H' := fun b u hu hb => stay b u hb fun z => by
 obtain ⟨_, ⟨o, q, ho⟩, _⟩ := r.own i b z
 rw [hb] at q
 cases q
 obtain ⟨us, e1 | ⟨o', e1⟩⟩ := hu
 · exact (ho us).1 e1
 · exact (ho us).2 o' e1
theorem Rep.setT {i : Nat} {v : V} {W : Addr → Prop} {T : Thg} {H1 : Hp} (r : Rep K O H₀ A H σ ρ) (s : Stp O H H1) (stay1 : ∀ b u, H1 b = some u → ¬ A i b → H' b = some u) (hW : ∀ b, W b → (A i b ∨ H b = Option.none) ∧ ∃ o, H' b = some o ∧ OwnO o)
   (hR : T.R K (unO O (reg A i W)) W H' v) : Rep K O H₀ (reg A i W) H' (σ.set i (some v)) (ρ.set i (some (.thg T))) := by
 have ts1 := (r.stp s).tstay stay1
 have ts : TupStay H H' := fun b u hu hb => ts1 b u hu (s.t b u hu hb)
 have nA : ∀ b, O.M b → ¬ A i b := fun b m z => (r.own i b z).2.2 m
 have stay : ∀ b u, H b = some u → ¬ A i b → ¬ O.M b → H' b = some u := fun b u e z m => stay1 b u (s.s b u e m) z
 have sM : ∀ b, O.M b → H' b = H1 b := fun b m => by
   obtain ⟨o, e⟩ := r.ok.here H1 b (s.p r.p) m
   rw [e, stay1 b o e (nA b m)]
 have pp : O.P H' := r.ok.loc H1 _ sM (s.p r.p)
 have oth : ∀ {j b}, j ≠ i → A j b → ¬ A i b := fun hj a z => hj (r.dis _ _ _ a z)
 have un : ∀ b u, H b = some u → unO O A b → unO O (reg A i W) b := fun b u e f => ⟨f.1, fun j z => by
   rcases z with z | z
   · exact f.2 j z.2
   · rcases (hW b z.2).1 with y | y
     · exact f.2 i y
     · rw [e] at y; cases y⟩
 have tF : ∀ b u, unO O A b → H b = some u → unO O (reg A i W) b ∧ H' b = some u := fun b u f q => ⟨un b u q f, stay b u q (f.2 i) f.1⟩
 have mv : ∀ {v d}, Is K (unO O A) H v d → Is K (unO O (reg A i W)) H' v d := fun z => z.to (fun b ys f q => tF b _ f q) fun b ys q => SqT.stay (h := q) ts
 have mvs : ∀ {v d}, IsAll K (unO O A) H v d → IsAll K (unO O (reg A i W)) H' v d := fun z => z.to (fun b ys f q => tF b _ f q) fun b ys q => SqT.stay (h := q) ts
 have wm : ∀ b, W b → H₀ b = Option.none ∧ ¬ O.M b := fun b w => by
   rcases (hW b w).1 with z | z
   · exact ⟨(r.own i b z).1, (r.own i b z).2.2⟩
   · have m : ¬ O.M b := fun m => by obtain ⟨o, e⟩ := r.ok.here H b r.p m; rw [z] at e; cases e
     exact ⟨r.st.s.free m z, m⟩
 refine ⟨r.ok, pp, r.p0, ⟨fun b o hb n => ?_, fun _ => pp, fun b u hu hb => ts b u hu (r.st.t b u hu hb)⟩, fun j k b x y => ?_, fun j b x => ?_, fun j x e => ?_, by rw [List.length_set, List.length_set]; exact r.len⟩
 · exact stay b o (r.st.s b o hb n) (fun z => by rw [(r.own i b z).1] at hb; cases hb) n
 · rcases x with x | x <;> rcases y with y | y
   · exact r.dis j k b x.2 y.2
   · rcases (hW b y.2).1 with z | z
     · exact absurd (r.dis j i b x.2 z) x.1
     · obtain ⟨_, ⟨o, q, _⟩, _⟩ := r.own j b x.2; rw [z] at q; cases q
   · rcases (hW b x.2).1 with z | z
     · exact absurd (r.dis k i b y.2 z) y.1
     · obtain ⟨_, ⟨o, q, _⟩, _⟩ := r.own k b y.2; rw [z] at q; cases q
   · exact x.1.trans y.1.symm
 · rcases x with x | x
   · obtain ⟨h0, ⟨o, q, ho⟩, m⟩ := r.own j b x.2
     exact ⟨h0, ⟨o, stay b o q (oth x.1 x.2) m, ho⟩, m⟩
   · exact ⟨(wm b x.2).1, (hW b x.2).2, (wm b x.2).2⟩
 · by_cases hj : i = j
   · subst hj
     have hi : i < ρ.length := by
       rcases Nat.lt_or_ge i ρ.length with z | z
       · exact z
       · rw [List.getElem?_eq_none (by simpa using z)] at e; cases e
     rw [List.getElem?_set_self hi] at e
     cases e
     exact ⟨v, List.getElem?_set_self (by have := r.len; omega), T.to (fun b u f q => ⟨f, q⟩) (fun b u w q => ⟨.inr ⟨rfl, w⟩, q⟩) (TupStay.refl _) hR⟩
   · rw [List.getElem?_set_ne hj] at e
     obtain ⟨w, h1, h2⟩ := r.at_ j x e
     have hj' : j ≠ i := fun z => hj z.symm
     refine ⟨w, by rw [List.getElem?_set_ne hj]; exact h1, ?_⟩
     cases x with
     | im d => exact mv h2
     | own es =>
       obtain ⟨b, ys, rfl, hb, hlb, hs⟩ := h2
       exact ⟨b, ys, rfl, .inl ⟨hj', hb⟩, stay b _ hlb (oth hj' hb) (r.own j b hb).2.2, mvs hs⟩
     | ob => exact h2
     | scr n => exact IsS.to (fun b u f q => tF b u f q) h2
     | dct ks => obtain ⟨b, hb, h2⟩ := h2; exact ⟨b, .inl ⟨hj', hb⟩, h2.to fun u q => stay b u q (oth hj' hb) (r.own j b hb).2.2⟩
     | gen f ds => obtain ⟨b, xs, e, hb, q, z⟩ := h2; exact ⟨b, xs, e, .inl ⟨hj', hb⟩, stay b _ q (oth hj' hb) (r.own j b hb).2.2, mvs z⟩
     | rd f ds => obtain ⟨b, xs, e, hb, q, z⟩ := h2; exact ⟨b, xs, e, un b _ q hb, stay b _ q (hb.2 i) hb.1, mvs z⟩
     | exc C ns ds => obtain ⟨xs, e, z⟩ := h2; exact ⟨xs, e.to fun b u f q => tF b u f q, mvs z⟩
     | thg T => exact T.to (fun b u f q => tF b u f q) (fun b u w q => ⟨.inl ⟨hj', w⟩, stay b u q (oth hj' w) (r.own j b w).2.2⟩) ts h2
     | thr T => obtain ⟨W', hw, z⟩ := h2; exact ⟨W', fun b w => let ⟨f, o, q⟩ := hw b w; ⟨un b o q f, o, stay b o q (f.2 i) f.1⟩, T.to (fun b u f q => tF b u f q) (fun b u w q => ⟨w, stay b u q ((hw b w).1.2 i) (hw b w).1.1⟩) ts z⟩
theorem Frm.setT {i : Nat} {W : Addr → Prop} {H1 : Hp} (s : Stp O H H1) (stay : ∀ b u, H1 b = some u → ¬ A i b → H' b = some u) (hW : ∀ b, W b → (A i b ∨ H b = Option.none)) : Frm O A H (reg A i W) H' := fun b o e u => ⟨stay b o (s.s b o e u.1) (u.2 i), u.1, fun j z => by
 rcases z with z | z
 · exact u.2 j z.2
 · rcases hW b z.2 with y | y
   · exact u.2 i y
   · rw [e] at y; cases y⟩
end
mutual
inductive Ow (K : PySem.W.Frag) (H : Hp) : V → PyData → List Addr → Prop
 | leaf {v d} : flat d = true → Is K (fun _ => False) H v d → Ow K H v d []
 | list {a xs ds as} : H a = some (.lst xs) → OwAll K H xs ds as → Ow K H (.ref a) (.list ds) (a :: as)
 | tuple {a xs ds as} : H a = some (.tup xs) → OwAll K H xs ds as → Ow K H (.ref a) (.tuple ds) as
inductive OwAll (K : PySem.W.Frag) (H : Hp) : List V → List PyData → List Addr → Prop
 | nil : OwAll K H [] [] []
 | cons {v vs d ds as bs} : Ow K H v d as → OwAll K H vs ds bs → OwAll K H (v :: vs) (d :: ds) (as ++ bs)
end
end L3
namespace L3
open PySem PySem.Spec
open PyProof.Rows hiding St
open L2
theorem set_back {β : Type} {l : List β} {i : Nat} {x : β} (h : l[i]? = some x) : l.set i x = l := by
 obtain ⟨z, rfl⟩ := List.getElem?_eq_some_iff.mp h
 exact List.set_getElem_self z
end L3
namespace L3
open PySem PySem.Spec
open PyProof.Rows hiding St
open L2
abbrev KD := List (Int × PyData)
def KD.at_ (kvs : KD) (i : Int) : Option PyData := (kvs.find? fun p => decide (p.1 = i)).map (·.2)
def NV (K : PySem.W.Frag) (H : Hp) : List (Key × V) → KD → Prop
 | [], [] => True
 | (k, v) :: ws, (i, d) :: kvs => k = .inl i ∧ flat d = true ∧ Is K (fun _ => False) H v d ∧ NV K H ws kvs
 | _, _ => False
theorem NV.to {K : PySem.W.Frag} {H H' : Hp} (ts : TupStay H H') : ∀ {ws : List (Key × V)} {kvs : KD}, NV K H ws kvs → NV K H' ws kvs
 | [], [], _ => trivial
 | [], _ :: _, h => h.elim
 | _ :: _, [], h => h.elim
 | (_, _) :: _, (_, _) :: _, h => ⟨h.1, h.2.1, Is.flat ts h.2.2.1 h.2.1, NV.to ts h.2.2.2⟩
theorem NV.length {K : PySem.W.Frag} {H : Hp} : ∀ {ws : List (Key × V)} {kvs : KD}, NV K H ws kvs → ws.length = kvs.length
 | [], [], _ => rfl
 | [], _ :: _, h => h.elim
 | _ :: _, [], h => h.elim
 | (_, _) :: ws, (_, _) :: kvs, h => by rw [List.length_cons, List.length_cons, NV.length h.2.2.2]
theorem NV.keys {K : PySem.W.Frag} {H : Hp} : ∀ {ws : List (Key × V)} {kvs : KD}, NV K H ws kvs → ws.map (·.1) = kvs.map fun p => .inl p.1
 | [], [], _ => rfl
 | [], _ :: _, h => h.elim
 | _ :: _, [], h => h.elim
 | (_, _) :: ws, (_, _) :: kvs, h => by rw [List.map_cons, List.map_cons, NV.keys h.2.2.2]; exact congrArg (· :: _) h.1
theorem NV.val {K : PySem.W.Frag} {H : Hp} {i : Int} : ∀ {ws : List (Key × V)} {kvs : KD}, NV K H ws kvs → (valV ws (.inl i)).isSome = (kvs.at_ i).isSome ∧ ∀ d, kvs.at_ i = some d → flat d = true ∧ ∃ v, valV ws (.inl i) = some v ∧ Is K (fun _ => False) H v d
 | [], [], _ => ⟨rfl, fun d h => by cases h⟩
 | [], _ :: _, h => h.elim
 | _ :: _, [], h => h.elim
 | (k, v) :: ws, (j, e) :: kvs, h => by
   obtain ⟨rfl, f, is, t⟩ := h
   obtain ⟨h1, h2⟩ := NV.val (i := i) t
   by_cases z : j = i
   · subst z
     have e1 : valV ((.inl j, v) :: ws) (.inl j) = some v := by unfold valV; rw [List.find?_cons_of_pos (by simp)]; rfl
     have e2 : KD.at_ ((j, e) :: kvs) j = some e := by unfold KD.at_; rw [List.find?_cons_of_pos (by simp)]; rfl
     rw [e1, e2]
     exact ⟨rfl, fun d hd => by cases hd; exact ⟨f, v, rfl, is⟩⟩
   · have e1 : valV ((.inl j, v) :: ws) (.inl i) = valV ws (.inl i) := by
       unfold valV
       rw [List.find?_cons_of_neg]
       intro w
       have w := of_decide_eq_true w
       exact z (Sum.inl.inj w)
     have e2 : KD.at_ ((j, e) :: kvs) i = KD.at_ kvs i := by unfold KD.at_; rw [List.find?_cons_of_neg (by simpa using z)]
     rw [e1, e2]
     exact ⟨h1, h2⟩
theorem NV.snoc {K : PySem.W.Frag} {H : Hp} {i : Int} {v : V} {d : PyData} (f : flat d = true) (is : Is K (fun _ => False) H v d) : ∀ {ws : List (Key × V)} {kvs : KD}, NV K H ws kvs → NV K H (ws ++ [(.inl i, v)]) (kvs ++ [(i, d)])
 | [], [], _ => ⟨rfl, f, is, trivial⟩
 | [], _ :: _, h => h.elim
 | _ :: _, [], h => h.elim
 | (_, _) :: _, (_, _) :: _, h => ⟨h.1, h.2.1, h.2.2.1, NV.snoc f is h.2.2.2⟩
theorem putK_new {ws : List (Key × V)} {k : Key} {v : V} (h : valV ws k = none) : putK ws k v = ws ++ [(k, v)] := by
 unfold putK
 rw [if_neg]
 intro z
 rw [valV_any, h] at z
 cases z
def DctN (kvs : KD) : Thg := ⟨fun K _ W H v => ∃ a ws, v = .ref a ∧ W a ∧ H a = some (.dK ws) ∧ NV K H ws kvs, fun _ hW ts ⟨a, ws, e, w, q, z⟩ => ⟨a, ws, e, (hW a _ w q).1, (hW a _ w q).2, z.to ts⟩⟩
theorem ownK {ws : List (Key × V)} : OwnO (.dK ws) := fun _ => ⟨fun z => (nomatch z), fun _ z => (nomatch z)⟩
def dnIn (n : Nat) (ρ : DSt) (kvs : KD) : Prop := ρ[n]? = some (some (.thg (DctN kvs))) ∨ ρ[n]? = some (some (.thr (DctN kvs)))
section
variable {K : PySem.W.Frag} {O : Ob}
theorem dn_seen {H : Hp} {σ : St} {ρ : DSt} {n : Nat} {kvs : KD} (S : Seen K O H σ ρ) (h : dnIn n ρ kvs) : ∃ a ws, σ[n]? = some (some (.ref a)) ∧ ¬ O.M a ∧ H a = some (.dK ws) ∧ NV K H ws kvs := by
 rcases h with e | e
 · obtain ⟨v, h1, W, hw, a, ws, rfl, w, q, z⟩ := S.at_ n _ e
   exact ⟨a, ws, h1, (hw a w).1, q, z⟩
 · obtain ⟨v, h1, W, hw, a, ws, rfl, w, q, z⟩ := S.at_ n _ e
   exact ⟨a, ws, h1, (hw a w).1, q, z⟩
def inDN (neg : Bool) (n : Nat) (fk : DE) : DE := fun ρ Q => ∃ kvs, dnIn n ρ kvs ∧ fk ρ fun r => ∃ i : Int, r.d = .int i ∧ Q (.o (.bool (if neg then !(kvs.at_ i).isSome else (kvs.at_ i).isSome)))
theorem ed_inDN {n : Nat} {t : TE} {f : DE} (h : ED K O t f) : ED K O (tDIn t (tVar n)) (inDN false n f) := fun σ H ρ Q Qd S q k => by
 obtain ⟨kvs, hd, q⟩ := q
 refine h σ H ρ _ _ S q fun y H1 r s1 o1 ⟨i, er, q1⟩ => ?_
 have iy := o1.is S.ok S.p
 rw [er] at iy
 cases iy
 obtain ⟨a, ws, h1, nm, e, z⟩ := dn_seen (S.stp s1) hd
 refine ⟨_, h1, a, _, rfl, .k (k := .inl i) e, ?_⟩
 rw [(z.val (i := i)).1]
 exact k _ H1 (.o _) s1 (Is.bool _) q1
theorem ed_ninDN {n : Nat} {t : TE} {f : DE} (h : ED K O t f) : ED K O (tDNotIn t (tVar n)) (inDN true n f) := fun σ H ρ Q Qd S q k => by
 obtain ⟨kvs, hd, q⟩ := q
 refine h σ H ρ _ _ S q fun y H1 r s1 o1 ⟨i, er, q1⟩ => ?_
 have iy := o1.is S.ok S.p
 rw [er] at iy
 cases iy
 obtain ⟨a, ws, h1, nm, e, z⟩ := dn_seen (S.stp s1) hd
 refine ⟨_, h1, a, _, rfl, .k (k := .inl i) e, ?_⟩
 rw [(z.val (i := i)).1]
 exact k _ H1 (.o _) s1 (Is.bool _) q1
def getDN (n : Nat) (fk : DE) : DE := fun ρ Q => ∃ kvs, dnIn n ρ kvs ∧ fk ρ fun r => ∃ (i : Int) (d : PyData), r.d = .int i ∧ kvs.at_ i = some d ∧ Q (.o d)
theorem ed_getDN {n : Nat} {t : TE} {f : DE} (h : ED K O t f) : ED K O (tDGet (tVar n) t) (getDN n f) := fun σ H ρ Q Qd S q k => by
 obtain ⟨kvs, hd, q⟩ := q
 obtain ⟨a0, ws0, h0, _⟩ := dn_seen S hd
 refine ⟨_, h0, ?_⟩
 refine h σ H ρ _ _ S q fun y H1 r s1 o1 ⟨i, d, er, ed, q1⟩ => ?_
 have iy := o1.is S.ok S.p
 rw [er] at iy
 cases iy
 obtain ⟨a, ws, h1, nm, e, z⟩ := dn_seen (S.stp s1) hd
 rw [h0] at h1
 cases h1
 obtain ⟨fl, v, hv, iv⟩ := (z.val (i := i)).2 d ed
 have g : DGet H1 a0 (.int i) (some v) := by rw [← hv]; exact .k (k := .inl i) e
 exact ⟨a0, v, rfl, g, k v H1 (.o d) s1 (Is.flat (TupStay.refl H1) iv fl) q1⟩
def lenDN (n : Nat) : DE := fun ρ Q => ∃ kvs, dnIn n ρ kvs ∧ Q (.o (.int (kvs.length : Nat)))
def newDN (i : Nat) : DS := fun Dd ρ => Dd.nx (ρ.set i (some (.thg (DctN []))))
theorem sd_newDN {i : Nat} : SD K O (tAsg tDNewK (gName i)) (newDN i) := fun H₀ A σ H ρ D Dd r q P => by
 intro p hp
 have st : Stp O H (upd H p (.dK [])) := .new r.ok hp _
 have hW : ∀ b, b = p → (A i b ∨ H b = Option.none) ∧ ∃ o, upd H p (.dK []) b = some o ∧ OwnO o := fun b e => by subst e; exact ⟨.inr hp, _, upd_same, ownK⟩
 exact P.nx _ _ _ _ (r.setT (W := fun b => b = p) (T := DctN []) st (fun b u e _ => e) hW ⟨p, [], rfl, rfl, upd_same, trivial⟩) (.setT st (fun b u e _ => e) fun b m => (hW b m).1) q
def rDCopy : List V → Hp → VK → Prop := fun xs H Q => ∃ a kvs, xs = [V.ref a] ∧ H a = some (.dK kvs) ∧ ∀ p, H p = none → Q (.ref p) (upd H p (.dK kvs))
theorem call_dcopy {X : Cx} : CallR X (.type "dict") rDCopy := by
 intro pins s σ H xs us Q I r h
 obtain ⟨a, kvs, rfl, hH, q⟩ := h
 obtain ⟨u, rfl, ru⟩ := Vals.one r
 cases ru
 exact d_copyOf I (.inl hH) fun p s' hp I' => ⟨.ref p, _, I', rfl, q p hp⟩
def cpyDN (i n : Nat) : DS := fun Dd ρ => ∃ kvs, dnIn n ρ kvs ∧ Dd.nx (ρ.set i (some (.thg (DctN kvs))))
def putDN (n : Nat) (fv fk : DE) : DS := fun Dd ρ => ∃ kvs, ρ[n]? = some (some (.thg (DctN kvs))) ∧ fv ρ fun r => fk ρ fun r2 => ∃ i : Int, r2.d = .int i ∧ flat r.d = true ∧ kvs.at_ i = none ∧ kvs.length < sizeLine ∧ Dd.nx (ρ.set n (some (.thg (DctN (kvs ++ [(i, r.d)])))))
theorem sd_putDN {n : Nat} {tv tk : TE} {fv fk : DE} (hv : ED K O tv fv) (hk : ED K O tk fk) : SD K O (sDPut (tVar n) tk tv) (putDN n fv fk) := fun H₀ A σ H ρ D Dd r q P => by
 obtain ⟨kvs, e, q⟩ := q
 refine hv σ H ρ _ _ r.seen q fun x H1 r1 s1 o1 q1 => ?_
 obtain ⟨v, hv, a, ws, rfl, w, hH, z⟩ := r.at_ n _ e
 refine ⟨_, hv, ?_⟩
 refine hk σ H1 ρ _ _ (r.seen.stp s1) q1 fun y H2 r2 s2 o2 ⟨i, e2, fl, nw, ln, q2⟩ => ?_
 have iy := o2.is r.ok (s1.p r.p)
 rw [e2] at iy
 cases iy
 have m := (r.own n a w).2.2
 have st := s1.trans s2
 have hH2 : H2 a = some (.dK ws) := st.s a _ hH m
 have z2 : NV K H2 ws kvs := z.to st.t
 have vn : valV ws (.inl i) = none := by
   have := (z2.val (i := i)).1
   rw [nw] at this
   cases h : valV ws (.inl i) with
   | none => rfl
   | some v => rw [h] at this; cases this
 refine ⟨a, _, rfl, DPut.k (k := .inl i) hH2 (by rw [z2.length]; exact ln), ?_⟩
 rw [putK_new vn]
 have hW : ∀ c, c = a → (A n c ∨ H c = Option.none) ∧ ∃ o, upd H2 a (.dK (ws ++ [(.inl i, x)])) c = some o ∧ OwnO o := fun c e => by subst e; exact ⟨.inl w, _, upd_same, ownK⟩
 have stay : ∀ c u, H2 c = some u → ¬ A n c → upd H2 a (.dK (ws ++ [(.inl i, x)])) c = some u := fun c u e n => by
   rw [upd_ne fun z => n (by rw [z]; exact w)]; exact e
 have ts3 := (r.stp st).tstay stay
 have ix : Is K (fun _ => False) (upd H2 a (.dK (ws ++ [(.inl i, x)]))) x r1.d := Is.flat ts3 (Is.flat s2.t (o1.is r.ok r.p) fl : Is K (fun _ => False) H2 x r1.d) fl
 have rr := r.setT (i := n) (v := .ref a) (W := fun c => c = a) (T := DctN (kvs ++ [(i, r1.d)])) st stay hW ⟨a, _, rfl, rfl, upd_same, (z2.to ts3).snoc fl ix⟩
 rw [set_back hv] at rr
 exact P.nx _ _ _ _ rr (.setT st stay fun c m => (hW c m).1) q2
end
end L3
namespace L3
open PySem PySem.Spec
open PyProof.Rows hiding St
open L2
section
variable {K : PySem.W.Frag} {O : Ob}
theorem ed_lenDN {n : Nat} : ED K O (tCB (fun xs H Q => ∃ a kvs, xs = [V.ref a] ∧ H a = some (.dK kvs) ∧ Q (.int kvs.length) H) (tCons (tVar n) tNil)) (lenDN n) := fun σ H ρ Q Qd S q k => by
 obtain ⟨kvs, hd, q⟩ := q
 obtain ⟨a, ws, h1, nm, e, z⟩ := dn_seen S hd
 refine ⟨_, h1, a, ws, rfl, e, ?_⟩
 rw [z.length]
 exact k _ H (.o _) (.refl _ _) (Is.int _) q
theorem sd_cpyDN {i n : Nat} : SD K O (tAsg (tCB rDCopy (tCons (tVar n) tNil)) (gName i)) (cpyDN i n) := fun H₀ A σ H ρ D Dd r q P => by
 obtain ⟨kvs, hd, q⟩ := q
 obtain ⟨a, ws, h1, nm, e, z⟩ := dn_seen r.seen hd
 refine ⟨_, h1, a, ws, rfl, e, fun p hp => ?_⟩
 have st : Stp O H (upd H p (.dK ws)) := .new r.ok hp _
 have hW : ∀ b, b = p → (A i b ∨ H b = Option.none) ∧ ∃ o, upd H p (.dK ws) b = some o ∧ OwnO o := fun b e => by subst e; exact ⟨.inr hp, _, upd_same, ownK⟩
 exact P.nx _ _ _ _ (r.setT (W := fun b => b = p) (T := DctN kvs) st (fun b u e _ => e) hW ⟨p, ws, rfl, rfl, upd_same, z.to st.t⟩) (.setT st (fun b u e _ => e) fun b m => (hW b m).1) q
def SDk (K : PySem.W.Frag) (O : Ob) (t : TS) (g : (KD → Prop) → DSt → Prop) : Prop := ∀ (H₀ : Hp) (A : Nat → Addr → Prop) (σ : St) (H : Hp) (ρ : DSt) (R : VK) (Qk : KD → Prop) (Nx : St → Hp → Prop), Rep K O H₀ A H σ ρ → g Qk ρ → (∀ kvs a ws H', Qk kvs → Stp O H₀ H' → H₀ a = none → ¬ O.M a → H' a = some (.dK ws) → NV K H' ws kvs → R (.ref a) H') → t { nx := Nx, rt := R } σ H
theorem sdk_ret {m : Nat} : SDk K O (tRet (tVar m)) (fun Qk ρ => ∃ kvs, ρ[m]? = some (some (.thg (DctN kvs))) ∧ Qk kvs) := fun H₀ A σ H ρ R Qk Nx r ⟨kvs, e, q⟩ k => by
 obtain ⟨v, hv, a, ws, rfl, w, hH, z⟩ := r.at_ m _ e
 obtain ⟨h1, _, h3⟩ := r.own m a w
 exact ⟨_, hv, k kvs a ws H q r.st h1 h3 hH z⟩
theorem sdk_cons {t u : TS} {g1 : DS} {g2 : (KD → Prop) → DSt → Prop} (h : SD K O t g1) (h' : SDk K O u g2) : SDk K O (tSeq t u) (fun Qk ρ => g1 { nx := g2 Qk, rt := fun _ => False } ρ) := fun H₀ A σ H ρ R Qk Nx r q k => by
 refine h H₀ A σ H ρ _ _ r q ⟨fun A' σ' H' ρ' r' _ q' => ?_, fun _ _ _ _ _ _ z => z.elim, fun _ _ _ _ _ _ z => z.elim, fun _ _ _ _ _ z => z.elim⟩
 exact h' H₀ A' σ' H' ρ' R Qk Nx r' q' k
def spK (K : PySem.W.Frag) (φ : Ob → Prop) (n : Nat) (f : List PyData → (KD → Prop) → Prop) : Sp := fun vs H Q _ =>
 ∃ (O : Ob) (ds : List PyData) (Qk : KD → Prop), O.Ok ∧ φ O ∧ O.P H ∧ ds.length = n ∧ IsAll K (unM O) H vs ds ∧ f ds Qk ∧ ∀ kvs a ws H', Qk kvs → Stp O H H' → H a = none → ¬ O.M a → H' a = some (.dK ws) → NV K H' ws kvs → Q (.ref a) H'
theorem spK_len {φ : Ob → Prop} {n : Nat} {f : List PyData → (KD → Prop) → Prop} {ps : List Str} (hn : ps.length = n) : ∀ vs H Q E, spK K φ n f vs H Q E → vs.length = ps.length := fun vs H Q E zz => by obtain ⟨O, ds, _, _, _, _, h, is, _⟩ := zz; rw [is.length, h, hn]
def setK (i n : Nat) (f : List PyData → (KD → Prop) → Prop) (g : DA) : DS := fun Dd ρ => g ρ fun ds => ds.length = n ∧ f ds fun kvs => Dd.nx (ρ.set i (some (.thg (DctN kvs))))
theorem sd_setK {i n : Nat} {φ : Ob → Prop} {f : List PyData → (KD → Prop) → Prop} {E : XK} {t : TA} {g : DA} (hφ : φ O) (h : AD K O t g) : SD K O (tAsg (tCall (spK K φ n f) [] E t) (gName i)) (setK i n f g) := fun H₀ A σ H ρ D Dd r q P => by
 refine h σ H ρ _ _ r.seen q fun vs H1 ds s1 is ⟨hn, q1⟩ => ?_
 rw [List.append_nil]
 have r1 := r.stp s1
 refine ⟨O, ds, _, r.ok, hφ, s1.p r.p, hn, is, q1, fun kvs a ws H' qk s2 ha nm e z => ?_⟩
 have st := s1.trans s2
 have ha0 : H a = none := by
   cases h0 : H a with
   | none => rfl
   | some o => rw [s1.s a o h0 nm] at ha; cases ha
 have hW : ∀ b, b = a → (A i b ∨ H b = Option.none) ∧ ∃ o, H' b = some o ∧ OwnO o := fun b eb => by subst eb; exact ⟨.inr ha0, _, e, ownK⟩
 exact P.nx _ _ _ _ (r.setT (W := fun b => b = a) (T := DctN kvs) st (fun b u e _ => e) hW ⟨a, ws, rfl, rfl, e, z⟩) (.setT st (fun b u e _ => e) fun b m => (hW b m).1) qk
def gThgA (n : Nat) (g : DGA) : DGA := fun ρ Q => ∃ T, (ρ[n]? = some (some (.thg T)) ∨ ρ[n]? = some (some (.thr T))) ∧ g ρ fun rs => Q (.thr T :: rs)
theorem ag_thg {n : Nat} {u : TA} {g : DGA} (h' : AG K O u g) : AG K O (tCons (tVar n) u) (gThgA n g) := fun σ H ρ Q Qd S hf k => by
 obtain ⟨T, e, q⟩ := hf
 have : ∃ v, σ[n]? = some (some v) ∧ SeenV K O H v (.thr T) := by
   rcases e with e | e
   · obtain ⟨v, h1, h2⟩ := S.at_ n _ e; exact ⟨v, h1, h2⟩
   · obtain ⟨v, h1, h2⟩ := S.at_ n _ e; exact ⟨v, h1, h2⟩
 obtain ⟨v, h1, h2⟩ := this
 refine ⟨v, h1, ?_⟩
 refine h' σ H ρ _ _ S q fun vs H2 rs s2 a2 q2 => ?_
 exact k (v :: vs) H2 (.thr T :: rs) s2 ⟨.inr (.inr (.inr ⟨T, rfl, SeenV.stp s2 h2⟩)), a2⟩ q2
def gObA (n : Nat) (g : DGA) : DGA := fun ρ Q => ρ[n]? = some (some .ob) ∧ g ρ fun rs => Q (.ob :: rs)
theorem ag_ob {n : Nat} {u : TA} {g : DGA} (h' : AG K O u g) : AG K O (tCons (tVar n) u) (gObA n g) := fun σ H ρ Q Qd S hf k => by
 obtain ⟨e, q⟩ := hf
 obtain ⟨v, h1, h2⟩ := S.at_ n _ e
 refine ⟨v, h1, ?_⟩
 refine h' σ H ρ _ _ S q fun vs H2 rs s2 a2 q2 => ?_
 exact k (v :: vs) H2 (.ob :: rs) s2 ⟨.inr (.inr (.inl ⟨rfl, h2⟩)), a2⟩ q2
end
section
variable {ι κ : Type} {P : Program} {w : World} {K : PySem.W.Frag} {mg : Str → Option Value} {base : Heap} {k : Nat} {X : ι → Cx} {O : κ → Ob} {a b : Expr} {fa fb : DE} {pos p px py p1 p2 p3 : Pos} {x y : Str} {es : List Expr} {ga : DGA} {g1 : DS} {st : Stmt} {sts : List Stmt}
theorem s_newDN (n : Nat) (hN : ∀ i, (X i).N.Nodup := by intro i; exact of_decide_eq_true (by kernel_rfl)) (hi : ∀ i, (X i).N[n]? = some x := by intro i; rfl) (hx : ∀ i, Loc (X i).env.scope x := by intro i; first | exact Or.inl rfl | exact Or.inr rfl)
   (hs : ∀ i, swapsWith (.Dict [] [] p1) (some (.Name x px)) pos.line (X i).env = pure false := by intro i; rfl) (hf : ∀ i, (X i).fn x = true ∨ (X i).env.scope.names.lookup x = some .local := by intro i; first | exact .inl rfl | exact .inr rfl) :
   S3 K X O (.Assign [.Name x px] (.Dict [] [] p1) pos) (newDN n) := ⟨_, fun i => ps_set (hN i) (hi i) (hx i) pe_dnewK (hs i) (hf i), fun j => sd_newDN⟩
theorem s_cpyDN (n m : Nat) (C : Ctx3 P w K mg base k X) (B : Blt mg) (hN : ∀ i, (X i).N.Nodup := by intro i; exact of_decide_eq_true (by kernel_rfl)) (hi : ∀ i, (X i).N[n]? = some x := by intro i; rfl) (hx : ∀ i, Loc (X i).env.scope x := by intro i; first | exact Or.inl rfl | exact Or.inr rfl)
   (hM : ∀ i, (X i).N[m]? = some y := by intro i; rfl) (hv : ∀ i, Vis (X i).env.scope y := by intro i; first | exact Or.inl rfl | exact Or.inr (Or.inl rfl) | exact Or.inr (Or.inr rfl)) (hd : (y == ("__debug__" : Str)) = false := by decide) (hcd : (y == ("__classdict__" : Str)) = false := by decide) (hg : ∀ i, Gl (X i) "dict" := by intro i; rfl) (he : ∀ i, starEach [.Name y py] (X i).env = [(false, eval (.Name y py) (X i).env)] := by intro i; rfl)
   (hs : ∀ i, swapsWith (.Call (.Name "dict" p1) [.Name y py] [] p2) (some (.Name x px)) pos.line (X i).env = pure false := by intro i; rfl) (hf : ∀ i, (X i).fn x = true ∨ (X i).env.scope.names.lookup x = some .local := by intro i; first | exact .inl rfl | exact .inr rfl) :
   S3 K X O (.Assign [.Name x px] (.Call (.Name "dict" p1) [.Name y py] [] p2) pos) (cpyDN n m) :=
 ⟨_, fun i => ps_set (hN i) (hi i) (hx i) (pe_callTy (X := X i) call_dcopy (hg i) (by rw [C.hmg]; exact B.dict) (by decide +kernel) (pa_cons (pe_var (pos := py) (hM i) (hv i) hd hcd) pa_nil (he i)) (by decide) (by decide) (he i)) (hs i) (hf i), fun j => sd_cpyDN⟩
theorem e_lenDN (n : Nat) (C : Ctx3 P w K mg base k X) (B : Blt mg) (hN : ∀ i, (X i).N[n]? = some x := by intro i; rfl) (hv : ∀ i, Vis (X i).env.scope x := by intro i; first | exact Or.inl rfl | exact Or.inr (Or.inl rfl) | exact Or.inr (Or.inr rfl)) (hd : (x == ("__debug__" : Str)) = false := by decide) (hcd : (x == ("__classdict__" : Str)) = false := by decide) (hg : ∀ i, Gl (X i) "len" := by intro i; rfl) (he : ∀ i, starEach [.Name x px] (X i).env = [(false, eval (.Name x px) (X i).env)] := by intro i; rfl) :
   E3 K X O (.Call (.Name "len" p1) [.Name x px] [] pos) (lenDN n) :=
 ⟨_, fun i => pe_callB (X := X i) call_lenD (hg i) (by rw [C.hmg]; exact B.len) bt_len (pa_cons (pe_var (pos := px) (hN i) (hv i) hd hcd) pa_nil (he i)) (by decide) (by decide) (he i), fun j => ed_lenDN⟩
theorem e_inDN (n : Nat) (C : Ctx3 P w K mg base k X) (ha : E3 K X O a fa) (hN : ∀ i, (X i).N[n]? = some x := by intro i; rfl) (hv : ∀ i, Vis (X i).env.scope x := by intro i; first | exact Or.inl rfl | exact Or.inr (Or.inl rfl) | exact Or.inr (Or.inr rfl)) (hd : (x == ("__debug__" : Str)) = false := by decide) (hcd : (x == ("__classdict__" : Str)) = false := by decide) (hm : behindInMarks .In (.Name x px) = false := by rfl) :
   E3 K X O (.Compare a [.In] [.Name x px] pos) (inDN false n fa) := let ⟨_, p1, d1⟩ := ha; ⟨_, fun i => pe_cmp (pc_din (hu_of (C.room i)) (p1 i) (pe_var (pos := px) (hN i) (hv i) hd hcd)) hm, fun j => ed_inDN (d1 j)⟩
theorem t_ninDN (n : Nat) (C : Ctx3 P w K mg base k X) (ha : E3 K X O a fa) (hN : ∀ i, (X i).N[n]? = some x := by intro i; rfl) (hv : ∀ i, Vis (X i).env.scope x := by intro i; first | exact Or.inl rfl | exact Or.inr (Or.inl rfl) | exact Or.inr (Or.inr rfl)) (hd : (x == ("__debug__" : Str)) = false := by decide) (hcd : (x == ("__classdict__" : Str)) = false := by decide) (hm : behindInMarks .NotIn (.Name x px) = false := by rfl) :
   T3 K X O (.Compare a [.NotIn] [.Name x px] pos) (bD (inDN true n fa)) := let ⟨_, p1, d1⟩ := ha; ⟨_, fun i => pt_cmp (pc_dnotin (hu_of (C.room i)) (p1 i) (pe_var (pos := px) (hN i) (hv i) hd hcd)) hm, fun j => td_valB (ed_ninDN (d1 j))⟩
theorem e_getDN (n : Nat) (C : Ctx3 P w K mg base k X) (ha : E3 K X O a fa) (hN : ∀ i, (X i).N[n]? = some x := by intro i; rfl) (hv : ∀ i, Vis (X i).env.scope x := by intro i; first | exact Or.inl rfl | exact Or.inr (Or.inl rfl) | exact Or.inr (Or.inr rfl)) (hd : (x == ("__debug__" : Str)) = false := by decide) (hcd : (x == ("__classdict__" : Str)) = false := by decide) (hs : NoSl a := by intro _ _; rfl) :
   E3 K X O (.Subscript (.Name x px) a pos) (getDN n fa) := let ⟨_, p1, d1⟩ := ha; ⟨_, fun i => pe_dget (hu_of (C.room i)) (pe_var (pos := px) (hN i) (hv i) hd hcd) (p1 i) hs, fun j => ed_getDN (d1 j)⟩
theorem s_putDN (n : Nat) (C : Ctx3 P w K mg base k X) (hv : E3 K X O a fa) (hi : E3 K X O b fb) (hN : ∀ i, (X i).N[n]? = some x := by intro i; rfl) (hvx : ∀ i, Vis (X i).env.scope x := by intro i; first | exact Or.inl rfl | exact Or.inr (Or.inl rfl) | exact Or.inr (Or.inr rfl)) (hd : (x == ("__debug__" : Str)) = false := by decide) (hcd : (x == ("__classdict__" : Str)) = false := by decide)
   (hs : ∀ i, swapsWith a (some (.Subscript (.Name x px) b p1)) pos.line (X i).env = pure false := by intro i; rfl) :
   S3 K X O (.Assign [.Subscript (.Name x px) b p1] a pos) (putDN n fa fb) := let ⟨_, q1, d1⟩ := hv; let ⟨_, q2, d2⟩ := hi; ⟨_, fun i => ps_dput (hu_of (C.room i)) (pe_var (pos := px) (hN i) (hvx i) hd hcd) (q2 i) (q1 i) (hs i), fun j => sd_putDN (d1 j) (d2 j)⟩
def Sk3 (K : PySem.W.Frag) (X : ι → Cx) (O : κ → Ob) (s : List Stmt) (g : (KD → Prop) → DSt → Prop) : Prop := ∃ t, (∀ i, PSs (X i) s t) ∧ ∀ j, SDk K (O j) t g
theorem k_ret (m : Nat) (hN : ∀ i, (X i).N[m]? = some x := by intro i; rfl) (hv : ∀ i, Vis (X i).env.scope x := by intro i; first | exact Or.inl rfl | exact Or.inr (Or.inl rfl) | exact Or.inr (Or.inr rfl)) (hd : (x == ("__debug__" : Str)) = false := by decide) (hcd : (x == ("__classdict__" : Str)) = false := by decide) :
   Sk3 K X O [.Return (some (.Name x px)) pos] (fun Qk ρ => ∃ kvs, ρ[m]? = some (some (.thg (DctN kvs))) ∧ Qk kvs) := ⟨_, fun i => pss_one (ps_ret (pe_var (hN i) (hv i) hd hcd)), fun j => sdk_ret⟩
theorem k_cons {g2 : (KD → Prop) → DSt → Prop} (h : S3 K X O st g1) (h' : Sk3 K X O sts g2) : Sk3 K X O (st :: sts) (fun Qk ρ => g1 { nx := g2 Qk, rt := fun _ => False } ρ) := let ⟨_, p, d⟩ := h; let ⟨_, p2, d2⟩ := h'; ⟨_, fun i => pss_cons (p i) (p2 i), fun j => sdk_cons (d j) (d2 j)⟩
theorem g_thg (n : Nat) (hs : AG3 K X O es ga) (hN : ∀ i, (X i).N[n]? = some x := by intro i; rfl) (hv : ∀ i, Vis (X i).env.scope x := by intro i; first | exact Or.inl rfl | exact Or.inr (Or.inl rfl) | exact Or.inr (Or.inr rfl)) (hd : (x == ("__debug__" : Str)) = false := by decide) (hcd : (x == ("__classdict__" : Str)) = false := by decide)
   (he : ∀ i, starEach (.Name x px :: es) (X i).env = (false, eval (.Name x px) (X i).env) :: starEach es (X i).env := by intro i; rfl) : AG3 K X O (.Name x px :: es) (gThgA n ga) := let ⟨_, p2, d2⟩ := hs; ⟨_, fun i => pa_cons (pe_var (hN i) (hv i) hd hcd) (p2 i) (he i), fun j => ag_thg (d2 j)⟩
theorem g_ob (n : Nat) (hs : AG3 K X O es ga) (hN : ∀ i, (X i).N[n]? = some x := by intro i; rfl) (hv : ∀ i, Vis (X i).env.scope x := by intro i; first | exact Or.inl rfl | exact Or.inr (Or.inl rfl) | exact Or.inr (Or.inr rfl)) (hd : (x == ("__debug__" : Str)) = false := by decide) (hcd : (x == ("__classdict__" : Str)) = false := by decide)
   (he : ∀ i, starEach (.Name x px :: es) (X i).env = (false, eval (.Name x px) (X i).env) :: starEach es (X i).env := by intro i; rfl) : AG3 K X O (.Name x px :: es) (gObA n ga) := let ⟨_, p2, d2⟩ := hs; ⟨_, fun i => pa_cons (pe_var (hN i) (hv i) hd hcd) (p2 i) (he i), fun j => ag_ob (d2 j)⟩
theorem s_setK (n : Nat) {k' m : Nat} {ps : List Str} {φ : Ob → Prop} {F : List PyData → (KD → Prop) → Prop} {gd : DA} (C : Ctx3 P w K mg base k X) (D : Def3 P w K mg base k' y ps (spK K φ m F)) (hφ : ∀ j, φ (O j)) (ha : A3 K X O (a :: es) gd) (hk : k' ≤ k := by decide) (hg : ∀ i, Gl (X i) y := by intro i; rfl)
   (hdb : (y == ("__debug__" : Str)) = false := by decide) (he : ∀ i, starEach (a :: es) (X i).env = (false, eval a (X i).env) :: starEach es (X i).env := by intro i; rfl) (hpl : ∀ i, (backTo p2 (starEach es (X i).env)).any (·.1) = false := by intro i; rfl)
   (hN : ∀ i, (X i).N.Nodup := by intro i; exact of_decide_eq_true (by kernel_rfl)) (hi : ∀ i, (X i).N[n]? = some x := by intro i; rfl) (hx : ∀ i, Loc (X i).env.scope x := by intro i; first | exact Or.inl rfl | exact Or.inr rfl)
   (hs : ∀ i, swapsWith (.Call (.Name y p1) (a :: es) [] p2) (some (.Name x px)) pos.line (X i).env = pure false := by intro i; rfl) (hf : ∀ i, (X i).fn x = true ∨ (X i).env.scope.names.lookup x = some .local := by intro i; first | exact .inl rfl | exact .inr rfl) :
   S3 K X O (.Assign [.Name x px] (.Call (.Name y p1) (a :: es) [] p2) pos) (setK n m F gd) := by
 obtain ⟨f, fd, G, mm, kp, bn⟩ := D.ex
 obtain ⟨t, q, d⟩ := ha
 refine ⟨tAsg (tCall (spK K φ m F) [] E0 t) (gName n), fun i => ?_, fun j => sd_setK (hφ j) (d j)⟩
 have G' : FnOk (X i).prog (X i).w (X i).K (X i).mg (X i).base CX0 k f fd ps (spK K φ m F) := by rw [C.hP, C.hw, C.hK, C.hmg, C.hb]; exact G.mono hk
 exact ps_set (hN i) (hi i) (hx i) (pe_call G' (C.room i) (hg i) (by rw [C.hmg]; exact mm) (by rw [C.hK]; exact kp) (by rw [C.hK]; exact bn) .nil pass0 (q i) hdb (he i) (hpl i)) (hs i) (hf i)
end
section
variable {P : Program} {w : World} {K : PySem.W.Frag} {mg : Str → Option Value} {base : Heap} {k n : Nat} {x : Str} {st : Stmt} {N ps : List Str} {φ : Ob → Prop} {F : List PyData → (KD → Prop) → Prop}
theorem mk_K (T : Top3 K mg x st) (S : FnScope N ps (defScope st)) (hb : ∀ (kV doc pm : Value) (an : Option Addr) (cdv ct : Value) (us : List Value), us.length = ps.length → bindArgs (PySem.W.fnOf x x (defArgs st) (defBody st) (defScope st) .none kV doc pm an cdv ct) ⟨us, []⟩ = pure (ps.zip us)) (hn : ps.length = n)
   (body : ∀ (f : Addr) (cdv : Value) (A : Around) (outer : List Env) (s : Shared) (H : Hp) (E : XK) (O : Ob), φ O → Ctx3 P w K mg base k (bodyX P w K mg base N x (defScope st) f cdv A outer s H E) →
     ∃ g, Sk3 K (bodyX P w K mg base N x (defScope st) f cdv A outer s H E) (fun _ : Unit => O) (defBody st) g ∧ ∀ ds Qk, ds.length = n → F ds Qk → g Qk (dstart N (ds.map .im))) : Def3 P w K mg base (k + 1) x ps (spK K φ n F) := by
 obtain ⟨f, fd, Fu, m⟩ := T.ex
 refine ⟨f, fd, Fu.ok S (spK_len hn) (fun cdv A outer s H vs Q E hr h => ?_), m, Fu.kp, Fu.binds hb⟩
 obtain ⟨O, ds, Qk, ok, hφ, p, hl, is, q, kk⟩ := h
 obtain ⟨g, ⟨t, h1, h2⟩, h3⟩ := body f cdv A outer s H E O hφ (ctx_body hr)
 refine ⟨t, h1 (), ?_⟩
 have r := rep_start (K := K) (O := O) (N := N) (H := H) (vs := vs) (rs := ds.map .im) ok p (by rw [List.length_map]; exact is.length) fun i r e => by
   rw [List.getElem?_map] at e
   obtain ⟨d, hd, rfl⟩ := Option.map_eq_some_iff.mp e
   obtain ⟨v, hv, iv⟩ := is.get hd
   exact ⟨v, hv, .inl ⟨d, rfl, iv⟩⟩
 exact h2 () H _ _ H _ Q Qk _ r (h3 ds Qk hl q) fun kvs a ws H' qk s2 ha nm e z => kk kvs a ws H' qk s2 ha nm e z
end
end L3
namespace L3
open PySem PySem.Spec
open PyProof.Rows hiding St
open L2
def ThG (n : Int) : GThg → Prop
 | .nm i => 0 ≤ i ∧ i < n
 | .lt w => ∃ c, isLow c ∧ w = [c]
structure GTOk (g : GraZ) : Prop where
 n1 : 1 ≤ g.n
 n3 : g.n ≤ 3
 many : g.rs.length ≤ 6
 each : ∀ r ∈ g.rs, (0 ≤ r.n ∧ r.n < g.n) ∧ r.b.length ≤ 3 ∧ (nms r.b).length ≤ 2 ∧ ∀ t ∈ r.b, ThG g.n t
def wholeTF : List PyData → (R → Prop) → Prop := fun ds Q => ∃ d, ds = [d] ∧ ((∃ i : Int, d = .int i ∧ Q (.o (.bool true))) ∨ ∃ x : List PyData, d = .tuple x ∧ Q (.o (.bool false)))
def isPairF : List PyData → (R → Prop) → Prop := fun ds Q => ∃ d, ds = [d] ∧ ((∃ a ks, d = nodeD a ks ∧ Q (.o (.bool true))) ∨ (Odd d ∧ Q (.o (.bool false))))
def ofNameF : List PyData → (R → Prop) → Prop := fun ds Q => ∃ (g : GraZ) (x : Int) (d : PyData), ds = [encGz g, .int x, d] ∧ GTOk g ∧ ((∃ a ks, d = nodeD a ks ∧ Q (.o (.bool (thB a g.rs.length && decide ((g.at_ a).n = x))))) ∨ (Odd d ∧ Q (.o (.bool false))))
def isTreeF : List PyData → (R → Prop) → Prop := fun ds Q => ∃ (g : GraZ) (x : Int) (d : PyData) (n : Nat), ds = [encGz g, .int x, d] ∧ GTOk g ∧ n ≤ 10 ∧ Lk n d ∧ Q (.o (.bool (g.isT n x d)))
def partsTF : List PyData → (R → Prop) → Prop := fun ds Q => ∃ (g : GraZ) (a : Int) (ks : List PyData), ds = [encGz g, nodeD a ks] ∧ GTOk g ∧ thB a g.rs.length = true ∧ (nms (g.at_ a).b).length = ks.length ∧ (∀ k ∈ ks, flat k = true) ∧ Q (.n ((partsB (g.at_ a).b ks).map encPt))
def wordTF : List PyData → (R → Prop) → Prop := fun ds Q => ∃ (g : GraZ) (d : PyData) (n : Nat), ds = [encGz g, d] ∧ GTOk g ∧ n ≤ 10 ∧ Gd g n d ∧ Q (.o (.str (tx (g.wordT n d))))
def sizeOfF : List PyData → (R → Prop) → Prop := fun ds Q => ∃ (g : GraZ) (d : PyData) (n : Nat), ds = [d] ∧ n ≤ 10 ∧ Gd g n d ∧ Q (.o (.int (cntT n d : Nat)))
def isTreeRF (m : Nat) : List PyData → (R → Prop) → Prop := fun ds Q => ∃ (g : GraZ) (x : Int) (d : PyData), ds = [encGz g, .int x, d] ∧ GTOk g ∧ Lk m d ∧ Q (.o (.bool (g.isT m x d)))
def wordRF (m : Nat) : List PyData → (R → Prop) → Prop := fun ds Q => ∃ (g : GraZ) (d : PyData), ds = [encGz g, d] ∧ GTOk g ∧ m ≤ 10 ∧ Gd g m d ∧ Q (.o (.str (tx (g.wordT m d))))
def sizeRF (m : Nat) : List PyData → (R → Prop) → Prop := fun ds Q => ∃ (g : GraZ) (d : PyData), ds = [d] ∧ m ≤ 10 ∧ Gd g m d ∧ Q (.o (.int (cntT m d : Nat)))
def rightTF : List PyData → (R → Prop) → Prop := fun ds Q => ∃ (g : GraZ) (x : Int) (d : PyData), ds = [encGz g, .int x, d] ∧ GTOk g ∧ Lk 10 d ∧ Q (.o (.bool true))
def Nt : Nat → PyData → Prop
 | 0, _ => False
 | n + 1, d => ∃ a ks, d = nodeD a ks ∧ ks.length ≤ 2 ∧ ∀ k ∈ ks, Nt n k
theorem Nt.up : ∀ {n : Nat} {d : PyData}, Nt n d → Nt (n + 1) d
 | 0, _, h => h.elim
 | n + 1, d, h => by
   obtain ⟨a, ks, e, l, hk⟩ := h
   exact ⟨a, ks, e, l, fun k m => (hk k m).up⟩
theorem Nt.more {n m : Nat} {d : PyData} (h : Nt n d) (e : n ≤ m) : Nt m d := by
 induction e with
 | refl => exact h
 | step _ ih => exact ih.up
theorem Nt.lk : ∀ {n : Nat} {d : PyData}, Nt n d → Lk n d
 | 0, _, h => h.elim
 | n + 1, d, h => by
   obtain ⟨a, ks, e, l, hk⟩ := h
   exact .inl ⟨a, ks, e, by omega, fun k m => (hk k m).lk⟩
theorem Nt.odd {n : Nat} {k y : PyData} (h : Nt n k) : Odd (.tuple [k, y]) := by
 cases n with
 | zero => exact h.elim
 | succ n => obtain ⟨a, ks, rfl, _⟩ := h; exact .tup
def bentRF (m : Nat) : List PyData → (R → Prop) → Prop := fun ds Q => ∃ (g : GraZ) (d : PyData), ds = [encGz g, d] ∧ GTOk g ∧ Nt m d ∧ ∀ d', Lk m d' → Q (.o d')
theorem bentRF_zero {ds : List PyData} {Q : R → Prop} (h : bentRF 0 ds Q) : False := by obtain ⟨g, d, _, _, lk, _⟩ := h; exact lk
structure TreesOk (g : GraZ) (kvs : KD) : Prop where
 len : kvs.length ≤ 3
 nd : (kvs.map (·.1)).Nodup
 nt : ∀ p ∈ kvs, Nt kvs.length p.2
 rule : ∀ p ∈ kvs, ∃ r ∈ g.rs, r.n = p.1 ∧ ∀ i ∈ nms r.b, (kvs.at_ i).isSome = true
 nm : ∀ p ∈ kvs, 0 ≤ p.1 ∧ p.1 < g.n
theorem nd_lenI {α : Type} [DecidableEq α] : ∀ {zs ys : List α}, zs.Nodup → (∀ z ∈ zs, z ∈ ys) → zs.length ≤ ys.length
 | [], ys, _, _ => Nat.zero_le _
 | z :: zs, ys, nd, h => by
   have n := List.nodup_cons.mp nd
   have hz := h z (by simp)
   have := nd_lenI (zs := zs) (ys := ys.erase z) n.2 fun x hx => (List.mem_erase_of_ne (show x ≠ z from fun e => n.1 (by rw [← e]; exact hx))).mpr (h x (by simp [hx]))
   rw [List.length_erase_of_mem hz] at this
   have := List.length_pos_of_mem hz
   rw [List.length_cons]; omega
theorem KD.some_app {kvs ext : KD} {i : Int} (h : (kvs.at_ i).isSome = true) : (KD.at_ (kvs ++ ext) i).isSome = true := by
 unfold KD.at_ at h ⊢
 rw [List.find?_append]
 cases z : kvs.find? fun p => decide (p.1 = i) with
 | none => rw [z] at h; cases h
 | some p => rfl
theorem KD.mem {kvs : KD} {i : Int} {d : PyData} (h : kvs.at_ i = some d) : (i, d) ∈ kvs := by
 unfold KD.at_ at h
 obtain ⟨p, hp, rfl⟩ := Option.map_eq_some_iff.mp h
 have h1 := List.mem_of_find?_eq_some hp
 have h0 : decide (p.1 = i) = true := List.find?_some (p := fun p : Int × PyData => decide (p.1 = i)) hp
 have h2 := of_decide_eq_true h0
 have : (i, p.2) = p := Prod.ext h2.symm rfl
 rw [this]; exact h1
theorem KD.none {kvs : KD} {i : Int} (h : kvs.at_ i = Option.none) : i ∉ kvs.map (·.1) := fun m => by
 obtain ⟨p, hp, e⟩ := List.mem_map.mp m
 unfold KD.at_ at h
 have h := Option.map_eq_none_iff.mp h
 have := List.find?_eq_none.mp h p hp
 exact this (decide_eq_true e)
theorem KD.some_of {kvs : KD} {p : Int × PyData} (h : p ∈ kvs) : (kvs.at_ p.1).isSome = true := by
 cases z : kvs.at_ p.1 with
 | some _ => rfl
 | none => exact absurd (List.mem_map.mpr ⟨p, h, rfl⟩) (KD.none z)
theorem trees_nil {g : GraZ} : TreesOk g [] := ⟨Nat.zero_le _, .nil, (fun _ h => by cases h), (fun _ h => by cases h), (fun _ h => by cases h)⟩
theorem TreesOk.put {g : GraZ} (ok : GTOk g) {kvs ext : KD} (h : TreesOk g (kvs ++ ext)) {r : RuG} (hr : r ∈ g.rs) (nw : KD.at_ (kvs ++ ext) r.n = none) (hn : ∀ i ∈ nms r.b, (kvs.at_ i).isSome = true) (h0 : ∀ p ∈ kvs, Nt kvs.length p.2) {a : Int} {ks : List PyData} (hl : ks.length ≤ 2) (hk : ∀ k ∈ ks, ∃ i, kvs.at_ i = some k) : TreesOk g ((kvs ++ ext) ++ [(r.n, nodeD a ks)]) := by
 have n3 := ok.n3
 have er := ok.each r hr
 have nm : ∀ p ∈ (kvs ++ ext) ++ [(r.n, nodeD a ks)], 0 ≤ p.1 ∧ p.1 < g.n := fun p hp => by
   rcases List.mem_append.mp hp with hp | hp
   · exact h.nm p hp
   · rw [List.mem_singleton.mp hp]; exact er.1
 have nd : (((kvs ++ ext) ++ [(r.n, nodeD a ks)]).map (·.1)).Nodup := by
   rw [List.map_append]
   refine List.nodup_append.mpr ⟨h.nd, by simp, fun x hx y hy e => KD.none nw ?_⟩
   rw [← e] at hy
   rw [← (show x = r.n by simpa using hy)]
   exact hx
 refine ⟨?_, nd, fun p hp => ?_, fun p hp => ?_, nm⟩
 · have := nd_lenI (ys := [0, 1, 2]) nd fun z hz => by
     obtain ⟨p, hp, rfl⟩ := List.mem_map.mp hz
     have := nm p hp
     have : p.1 = 0 ∨ p.1 = 1 ∨ p.1 = 2 := by omega
     simpa using this
   rw [List.length_map] at this
   exact this
 · rw [List.length_append, List.length_singleton]
   rcases List.mem_append.mp hp with hp | hp
   · exact (h.nt p hp).up
   · rw [List.mem_singleton.mp hp]
     refine ⟨a, ks, rfl, hl, fun k m => ?_⟩
     obtain ⟨i, hi⟩ := hk k m
     exact (h0 _ (KD.mem hi)).more (by rw [List.length_append]; omega)
 · rcases List.mem_append.mp hp with hp | hp
   · obtain ⟨r', h1, h2, h3⟩ := h.rule p hp
     exact ⟨r', h1, h2, fun i hi => KD.some_app (h3 i hi)⟩
   · rw [List.mem_singleton.mp hp]
     exact ⟨r, hr, rfl, fun i hi => KD.some_app (KD.some_app (hn i hi))⟩
def leastTF : List PyData → (KD → Prop) → Prop := fun ds Q => ∃ g : GraZ, ds = [encGz g] ∧ GTOk g ∧ ∀ kvs, TreesOk g kvs → Q kvs
def treeRF (m : Nat) : List DV → (R → Prop) → Prop := fun rs Q => ∃ (g : GraZ) (kvs : KD) (x : Int) (j : Nat), rs = [.ob, .im (encGz g), .thr (DctN kvs), .im (.int x), .im (.int (j : Nat))] ∧ GTOk g ∧ TreesOk g kvs ∧ (kvs.at_ x).isSome = true ∧ j < m ∧ m ≤ 5 ∧ ∀ d, Nt (j + 3) d → Q (.o d)
theorem treeRF_zero {rs : List DV} {Q : R → Prop} (h : treeRF 0 rs Q) : False := by obtain ⟨g, kvs, x, j, _, _, _, _, lt, _⟩ := h; omega
theorem isTreeRF_zero {ds : List PyData} {Q : R → Prop} (h : isTreeRF 0 ds Q) : False := by obtain ⟨g, x, d, _, _, lk, _⟩ := h; exact lk
theorem wordRF_zero {ds : List PyData} {Q : R → Prop} (h : wordRF 0 ds Q) : False := by obtain ⟨g, d, _, _, _, lk, _⟩ := h; exact lk
theorem sizeRF_zero {ds : List PyData} {Q : R → Prop} (h : sizeRF 0 ds Q) : False := by obtain ⟨g, d, _, _, lk, _⟩ := h; exact lk
def pD (p : Int × PyData) : PyData := .tuple [.int p.1, p.2]
def tot2 (n : Nat) (ws : List (Int × PyData)) : Nat := (ws.map fun p => cntT n p.2).sum
theorem tot2_app (n : Nat) (a b : List (Int × PyData)) : tot2 n (a ++ b) = tot2 n a + tot2 n b := by
 unfold tot2
 rw [List.map_append, List.sum_append]
theorem tot2_len {n : Nat} : ∀ {ws : List (Int × PyData)}, (∀ p ∈ ws, Lk n p.2) → ws.length ≤ tot2 n ws
 | [], _ => Nat.zero_le _
 | p :: ws, h => by
   have h1 := cntT_pos (h p (by simp))
   have h2 := tot2_len (ws := ws) fun q hq => h q (List.mem_cons_of_mem _ hq)
   show (p :: ws).length ≤ cntT n p.2 + tot2 n ws
   rw [List.length_cons]; omega
theorem tot2_zip (n : Nat) : ∀ (xs : List Int) (ks : List PyData), tot2 n (xs.zip ks) ≤ (ks.map (cntT n)).sum
 | [], _ => Nat.zero_le _
 | _ :: _, [] => Nat.le_refl _
 | x :: xs, k :: ks => by
   have := tot2_zip n xs ks
   show cntT n k + tot2 n (xs.zip ks) ≤ _
   rw [List.map_cons, List.sum_cons]; omega
theorem zip_pD : ∀ (xs : List Int) (ks : List PyData), zipD (xs.map .int) ks = (xs.zip ks).map pD
 | [], _ => by cases ‹List PyData› <;> rfl
 | _ :: _, [] => rfl
 | x :: xs, k :: ks => by
   show _ :: zipD (xs.map .int) ks = _ :: (xs.zip ks).map pD
   rw [zip_pD xs ks]
   rfl
def tot1 (n : Nat) (ws : List PyData) : Nat := (ws.map (cntT n)).sum
theorem tot1_app (n : Nat) (a b : List PyData) : tot1 n (a ++ b) = tot1 n a + tot1 n b := by
 unfold tot1
 rw [List.map_append, List.sum_append]
theorem tot1_len {n : Nat} : ∀ {ws : List PyData}, (∀ p ∈ ws, Lk n p) → ws.length ≤ tot1 n ws
 | [], _ => Nat.zero_le _
 | p :: ws, h => by
   have h1 := cntT_pos (h p (by simp))
   have h2 := tot1_len (ws := ws) fun q hq => h q (List.mem_cons_of_mem _ hq)
   show (p :: ws).length ≤ cntT n p + tot1 n ws
   rw [List.length_cons]; omega
def tot3 (g : GraZ) (n : Nat) (ws : List Pt) : Nat := (ws.map (cost g n)).sum
theorem tot3_app (g : GraZ) (n : Nat) (a b : List Pt) : tot3 g n (a ++ b) = tot3 g n a + tot3 g n b := by
 unfold tot3
 rw [List.map_append, List.sum_append]
theorem tot3_rev (g : GraZ) (n : Nat) : ∀ a : List Pt, tot3 g n a.reverse = tot3 g n a
 | [] => rfl
 | p :: a => by
   rw [List.reverse_cons, tot3_app, tot3_rev g n a]
   show tot3 g n a + (cost g n p + 0) = cost g n p + tot3 g n a
   omega
def PtOk (g : GraZ) (n : Nat) : Pt → Prop
 | .inl w => ∃ c, isLow c ∧ w = [c]
 | .inr d => Gd g n d
theorem tot3_len {g : GraZ} {n : Nat} : ∀ {ws : List Pt}, (∀ p ∈ ws, PtOk g n p) → ws.length ≤ tot3 g n ws
 | [], _ => Nat.zero_le _
 | p :: ws, h => by
   have h2 := tot3_len (ws := ws) fun q hq => h q (List.mem_cons_of_mem _ hq)
   have h1 : 1 ≤ cost g n p := by
     cases p with
     | inl w => exact Nat.le_refl _
     | inr d => have := cntT_pos (h (.inr d) (by simp)).lk; show 1 ≤ 4 * cntT n d; omega
   show (p :: ws).length ≤ cost g n p + tot3 g n ws
   rw [List.length_cons]; omega
theorem flat_pt {g : GraZ} {n : Nat} {p : Pt} (h : PtOk g n p) : flat (encPt p) = true := by
 cases p with
 | inl w => rfl
 | inr d => exact Gd.lk h |>.flat
theorem parts_ok {g : GraZ} (ok : GTOk g) {a : Int} {ks : List PyData} {n : Nat} (ha : thB a g.rs.length = true) (hk : ∀ k ∈ ks, Gd g n k) : ∀ p ∈ partsB (g.at_ a).b ks, PtOk g n p := fun p hp => by
 rcases mem_parts hp with ⟨w, hw, rfl⟩ | ⟨k, m, rfl⟩
 · exact (ok.each _ (at_get_g ha).2.1).2.2.2 _ hw
 · exact hk k m
theorem all_idx {f : Int → PyData → Bool} : ∀ (N : List Int) (ks : List PyData) (pre : List Int), N.length = ks.length → ((ks.zipIdx pre.length).map fun p => f ((pre ++ N).getD p.2 0) p.1).all id = (N.zip ks).all fun p => f p.1 p.2
 | [], [], _, _ => rfl
 | [], _ :: _, _, h => by simp at h
 | _ :: _, [], _, h => by simp at h
 | x :: N, k :: ks, pre, h => by
   have ih := all_idx (f := f) N ks (pre ++ [x]) (by simpa using h)
   rw [List.length_append, List.length_singleton, List.append_assoc] at ih
   have e : (pre ++ x :: N).getD pre.length 0 = x := by rw [List.getD_eq_getElem?_getD, List.getElem?_append_right (Nat.le_refl _), Nat.sub_self]; rfl
   rw [List.zipIdx_cons, List.map_cons, List.all_cons, List.zip_cons_cons, List.all_cons, e]
   exact congrArg _ ih
def enumE (p : PyData × Nat) : PyData := .tuple [.int (p.2 : Nat), p.1]
theorem enum_enc (ks : List PyData) : enumD ks = ks.zipIdx.map enumE := by
 unfold enumD
 rw [List.mapIdx_eq_zipIdx_map]
 rfl
theorem wordB_len {n : Int} : ∀ (b : List GThg) (ws : List (List Nat)), (∀ t ∈ b, ThG n t) → (wordB b ws).length ≤ b.length + (ws.map List.length).sum
 | [], _, _ => by rw [wordB]; simp
 | .lt w :: b, ws, h => by
   obtain ⟨c, _, rfl⟩ := h (.lt w) (by simp)
   have := wordB_len b ws fun t ht => h t (List.mem_cons_of_mem _ ht)
   rw [wordB, List.length_append, List.length_singleton, List.length_cons]; omega
 | .nm _ :: b, k :: ws, h => by
   have := wordB_len b ws fun t ht => h t (List.mem_cons_of_mem _ ht)
   rw [wordB, List.length_append, List.length_cons, List.map_cons, List.sum_cons]; omega
 | .nm _ :: b, [], h => by
   have := wordB_len b [] fun t ht => h t (List.mem_cons_of_mem _ ht)
   rw [wordB, List.length_cons]; omega
theorem sum_le4 {α : Type} {f g : α → Nat} : ∀ {l : List α}, (∀ x ∈ l, f x ≤ 4 * g x) → (l.map f).sum ≤ 4 * (l.map g).sum
 | [], _ => by simp
 | x :: l, h => by
   have h1 := h x (by simp)
   have h2 := sum_le4 (l := l) fun y hy => h y (List.mem_cons_of_mem _ hy)
   rw [List.map_cons, List.sum_cons, List.map_cons, List.sum_cons]; omega
theorem word_len {g : GraZ} (ok : GTOk g) : ∀ {n : Nat} {d : PyData}, Gd g n d → (g.wordT n d).length ≤ 4 * cntT n d
 | 0, _, h => h.elim
 | n + 1, d, h => by
   obtain ⟨a, ks, rfl, l3, ha, hl, hks⟩ := h
   have be := ok.each _ (at_get_g ha).2.1
   have h1 := wordB_len (g.at_ a).b (ks.map (g.wordT n)) be.2.2.2
   have h2 := sum_le4 (f := fun d => (g.wordT n d).length) (g := cntT n) (l := ks) fun k m => word_len ok (hks k m)
   rw [List.map_map] at h1
   have h3 : (ks.map (List.length ∘ g.wordT n)).sum = (ks.map fun d => (g.wordT n d).length).sum := rfl
   have := be.2.1
   rw [wordT_node, cntT_node]; omega
theorem wordB_low {n : Int} : ∀ (b : List GThg) (ws : List (List Nat)), (∀ t ∈ b, ThG n t) → (∀ w ∈ ws, ∀ c ∈ w, c < 1000) → ∀ c ∈ wordB b ws, c < 1000
 | [], _, _, _, c, hc => by rw [wordB] at hc; cases hc
 | .lt w :: b, ws, h, hw, c, hc => by
   obtain ⟨x, hx, rfl⟩ := h (.lt w) (by simp)
   rw [wordB] at hc
   rcases List.mem_append.mp hc with z | z
   · rw [List.mem_singleton.mp z]; have : 97 ≤ x ∧ x < 123 := hx; omega
   · exact wordB_low b ws (fun t ht => h t (List.mem_cons_of_mem _ ht)) hw c z
 | .nm _ :: b, k :: ws, h, hw, c, hc => by
   rw [wordB] at hc
   rcases List.mem_append.mp hc with z | z
   · exact hw k (by simp) c z
   · exact wordB_low b ws (fun t ht => h t (List.mem_cons_of_mem _ ht)) (fun w m => hw w (List.mem_cons_of_mem _ m)) c z
 | .nm _ :: b, [], h, hw, c, hc => by
   rw [wordB] at hc
   exact wordB_low b [] (fun t ht => h t (List.mem_cons_of_mem _ ht)) hw c hc
theorem word_low {g : GraZ} (ok : GTOk g) : ∀ {n : Nat} {d : PyData}, Gd g n d → ∀ c ∈ g.wordT n d, c < 1000
 | 0, _, h => h.elim
 | n + 1, d, h => by
   obtain ⟨a, ks, rfl, l3, ha, hl, hks⟩ := h
   rw [wordT_node]
   refine wordB_low _ _ (ok.each _ (at_get_g ha).2.1).2.2.2 fun w hw => ?_
   obtain ⟨k, hk, rfl⟩ := List.mem_map.mp hw
   exact word_low ok (hks k hk)
theorem idx_g {g : GraZ} {a : Int} (h : thB a g.rs.length = true) : idxF (.tuple (g.rs.map encRg)) (.int a) = some (.o (encRg (g.at_ a))) := by
 obtain ⟨h1, _, h0, _⟩ := at_get_g h
 have e : a = ((a.toNat : Nat) : Int) := by omega
 rw [e]
 exact idx_tup (by rw [List.getElem?_map, ← e, h1]; rfl)
end L3
namespace L3
open PySem PySem.Spec
open PyProof.Rows hiding St
open L2
def gT2 (i : Nat) (is : List Nat) : DG := fun d ρ Q => ∃ d1 ds, d = .tuple [d1, .tuple ds] ∧ gTD is ds (ρ.set i (some (.im d1))) Q
section
variable {K : PySem.W.Frag} {O : Ob}
theorem gs_tup2 {i : Nat} {is : List Nat} {t : TGs} {n : Nat} (hn : is.length = n) (ht : GSs K O t is) : GS K O (gTup K 2 (gCons (gName i) (gCons (gTup K n t) gNil))) (gT2 i is) := fun σ H ρ v d Q Qd S h q k => by
 obtain ⟨d1, ds, rfl, q⟩ := q
 cases h with
 | tuple a r =>
   cases r with
   | cons r1 r =>
     cases r with
     | cons r2 r =>
       cases r
       refine ⟨_, _, rfl, a, rfl, _, _, rfl, _, _, rfl, ?_⟩
       cases r2 with
       | tuple b r3 => exact ⟨_, _, rfl, b, by rw [r3.length, gTD_len q]; exact hn, ht _ H _ _ ds _ Qd (S.set (r := .im _) r1) r3 q fun σ' ρ' S' q' => ⟨rfl, k σ' ρ' S' q'⟩⟩
theorem gr_tup2 {i : Nat} {is : List Nat} {t : TGs} {n : Nat} (hn : is.length = n) (ht : GRs K O t is) : GR K O (gTup K 2 (gCons (gName i) (gCons (gTup K n t) gNil))) (gT2 i is) := fun H₀ A σ H ρ v d Q Qd r fl h q k => by
 obtain ⟨d1, ds, rfl, q⟩ := q
 have fl : (flat d1 && (flats ds && true)) = true := fl
 rw [Bool.and_eq_true, Bool.and_eq_true] at fl
 cases h with
 | tuple a r0 =>
   cases r0 with
   | cons r1 r0 =>
     cases r0 with
     | cons r2 r0 =>
       cases r0
       refine ⟨_, _, rfl, a, rfl, _, _, rfl, _, _, rfl, ?_⟩
       cases r2 with
       | tuple b r3 =>
         have f1 : Frm O A H (fun j a => j ≠ i ∧ A j a) H := .setIm (.refl _ _)
         exact ⟨_, _, rfl, b, by rw [r3.length, gTD_len q]; exact hn, ht _ _ _ H _ _ ds _ Qd (r.setIm r1) fl.2.1 (IsAll.flats (TupStay.refl H) r3 fl.2.1) q fun A' σ' ρ' r' f q' => ⟨rfl, k A' σ' ρ' r' (f1.trans f) q'⟩⟩
end
section
variable {ι κ : Type} {P : Program} {w : World} {K : PySem.W.Frag} {mg : Str → Option Value} {base : Heap} {k : Nat} {X : ι → Cx}
theorem g_tup2 {h n : Nat} {x : Str} {px p1 p2 : Pos} {es : List Expr} {is : List Nat} {j1 j2 : Nat} (C : Ctx3 P w K mg base k X) (m : Nat) (hr : Gs3 K X h es is) (hlt : m < h := by decide) (hn : is.length = n := by rfl) (hN : ∀ i, (X i).N.Nodup := by intro i; exact of_decide_eq_true (by kernel_rfl)) (hi : ∀ i, (X i).N[m]? = some x := by intro i; rfl) (hx : ∀ i, Loc (X i).env.scope x := by intro i; first | exact Or.inl rfl | exact Or.inr rfl)
   (hf : ∀ i, (X i).fn x = true ∨ (X i).env.scope.names.lookup x = some .local := by intro i; first | exact .inl rfl | exact .inr rfl)
   (hn2 : ∀ i, (assignEach es (X i).env).length = n := by intro i; rfl) (hst : ∀ i, (assignEach es (X i).env).findIdx? (·.1) = none := by intro i; rfl)
   (hs1 : ∀ i, (assignEach [.Name x px, .Tuple es j1 p1] (X i).env).map (·.2) = assign (.Name x px) (X i).env :: (assignEach [.Tuple es j1 p1] (X i).env).map (·.2) := by intro i; rfl) (hs2 : ∀ i, (assignEach [.Tuple es j1 p1] (X i).env).map (·.2) = assign (.Tuple es j1 p1) (X i).env :: (assignEach [] (X i).env).map (·.2) := by intro i; rfl)
   (hl : ∀ i, (assignEach [.Name x px, .Tuple es j1 p1] (X i).env).length = 2 := by intro i; rfl) (hl2 : ∀ i, (assignEach [.Name x px, .Tuple es j1 p1] (X i).env).findIdx? (·.1) = none := by intro i; rfl) :
   G3 K X h (.Tuple [.Name x px, .Tuple es j1 p1] j2 p2) (gT2 m is) :=
 let ⟨_, p, d1, d2, o, mo⟩ := hr; ⟨_, fun i => by
   have z := pg_tup (pos := p1) (k := j1) (C.calm i) (p i) (hn2 i) (hst i)
   have y := pg_tup (pos := p2) (k := j2) (C.calm i) (pgs_cons (pg_name (pos := px) (hN i) (hi i) (hx i) (hf i)) (pgs_cons z pgs_nil (hs2 i)) (hs1 i)) (hl i) (hl2 i)
   rw [C.hK] at y
   exact y, fun O => gs_tup2 hn (d1 O), fun O => gr_tup2 hn (d2 O), own_tup (own_cons mon_name (mon_cons (mon_tup mo) mon_nil) (own_name hlt) (own_cons (mon_tup mo) mon_nil (own_tup o) own_nil))⟩
end
end L3
namespace L6
open PySem PySem.Spec PyProof.Rows
theorem Ord.perm {α β : Type} {blt : α → α → Bool} {k : Nat → α} {n : Nat} {ix : Nat → Nat} (o : Ord blt k n ix) {d : β} {l : List β} (hl : l.length = n) : ((List.range n).map fun i => l.getD (ix i) d).Perm l := by
 have p : ((List.range n).map ix).Perm (List.range n) := by
   refine (List.perm_ext_iff_of_nodup ?_ List.nodup_range).mpr fun x => ?_
   · refine List.pairwise_iff_getElem.mpr fun i j h1 h2 hij e => ?_
     simp only [List.getElem_map, List.getElem_range] at e
     simp only [List.length_map, List.length_range] at h1 h2
     have := o.bj.inj i j h1 h2 e
     omega
   · rw [List.mem_map, List.mem_range]
     constructor
     · rintro ⟨i, hi, rfl⟩; exact o.bj.lt i (List.mem_range.mp hi)
     · intro hx
       obtain ⟨i, hi, e⟩ := o.bj.sur x hx
       exact ⟨i, List.mem_range.mpr hi, e⟩
 have q := p.map fun i => l.getD i d
 rw [List.map_map] at q
 have e : ((List.range n).map fun i => l.getD i d) = l := by
   refine List.ext_getElem (by simp [hl]) fun i h1 h2 => ?_
   simp [List.getD, List.getElem?_eq_getElem h2]
 rw [e] at q
 exact q
end L6
namespace L3
open PySem PySem.Spec
open PyProof.Rows hiding St
open L2
def rSum : List V → Hp → VK → Prop := fun xs H Q => ∃ (p : Addr) (ns : List Int), xs = [.ref p] ∧ H p = some (.lst (ns.map V.int)) ∧ Q (.int ns.sum) H
theorem vals_nums : ∀ {ns : List Int} {us : List Value}, Vals (ns.map V.int) us → ∀ (i : Nat) (v : Value), us[i]? = some v → ∃ t, v = .int (ns.getD i 0) t
 | [], us, r, i, v, h => by cases r; simp at h
 | n :: ns, us, r, i, v, h => by
   rw [List.map_cons] at r
   cases r with
   | cons a b =>
     cases i with
     | zero => cases h; exact a
     | succ i => exact vals_nums b i v (by simpa using h)
theorem call_sumL {X : Cx} (hc : X.calm = true) : CallR X (.builtin "sum") rSum := by
 intro pins s σ H xs us Q I r h
 obtain ⟨p, ns, rfl, hH, q⟩ := h
 obtain ⟨u, rfl, ru⟩ := Vals.one r
 cases ru
 obtain ⟨z, its, n, rv, hl, e⟩ := I.lstM hH
 have pl : s.heap.IsList p its.toArray := ⟨_, e, rfl, _, rfl⟩
 have lt := Heap.lt_size e
 have hne : p ≠ s.heap.objs.size := Nat.ne_of_lt lt
 refine call_sum_walkG (wpAny_pyIter_list pl ?_)
 refine ⟨s.heap.objs.size, _, _, _, _, _, fun i => ns.getD i 0, rfl, Walks.list (A := X.A.in1) (I.ok.hd hc) _ p hne its.toArray, ⟨⟨_, Heap.get?_push_size _ rfl, rfl, rfl⟩, _, Heap.get?_push_of_some _ e, rfl, _, rfl⟩, fun b hb => ?_, fun i v hv => ?_, fun h' tk t' kk => ?_⟩
 · rw [Heap.size_push]
   rcases List.mem_cons.mp hb with rfl | hb
   · exact Nat.lt_succ_self _
   · rw [List.mem_singleton.mp hb]; exact Nat.lt_succ_of_lt lt
 · exact vals_nums rv i v (by rw [← List.getElem?_toArray]; exact hv)
 · have I1 : Inv X pins σ H { s with heap := h', toks := tk } := I.kept fun b o eb => kk b o (by simp; exact Nat.ne_of_lt (Heap.lt_size eb)) (Heap.get?_push_of_some _ eb)
   refine ⟨.int ns.sum, H, I1, ⟨t', ?_⟩, q⟩
   have lz : its.toArray.size = ns.length := by rw [List.size_toArray, ← hl, List.length_map]
   rw [lz, preSum_getD, List.take_length]
def sumD : List PyData → (R → Prop) → Prop := fun ds Q => ∃ ns : List Int, ds = [.list (ns.map .int)] ∧ Q (.o (.int ns.sum))
section
variable {K : PySem.W.Frag} {O : Ob}
theorem cd_sum : CallD K O rSum sumD := fun H vs ds Q Qd ok p is ⟨ns, e, q⟩ k => by
 subst e
 obtain ⟨v, rfl, iv⟩ := isAll_one is
 cases iv with
 | list f1 h1 s1 =>
   rw [isAll_ints s1] at h1
   exact ⟨_, ns, rfl, h1, k _ H (.o _) (.refl _ _) (Is.int _) q⟩
end
theorem bt_sum : bootBuiltins (Str.ofString "sum") = some (.builtin "sum") := boot_sum
theorem e_sum {ι κ : Type} {P : Program} {w : World} {K : PySem.W.Frag} {mg : Str → Option Value} {base : Heap} {k : Nat} {X : ι → Cx} {O : κ → Ob} {a : Expr} {ga : DA} {pos p : Pos} (C : Ctx3 P w K mg base k X) (B : Blt mg) (ha : A3 K X O [a] ga) (hg : ∀ i, Gl (X i) "sum" := by intro i; rfl) (he : ∀ i, starEach [a] (X i).env = (false, eval a (X i).env) :: starEach [] (X i).env := by intro i; rfl) : E3 K X O (.Call (.Name "sum" p) [a] [] pos) (callDE sumD ga) :=
 e_blt C (fun i => call_sumL (C.calm i)) (fun _ => cd_sum) bt_sum B.sum ha hg (by decide) (by decide) he
end L3
namespace L3
open PySem PySem.Spec
open PyProof.Rows hiding St
open SX HK
open L2 L6
def rSortD : List V → Hp → VK → Prop := fun xs H Q => ∃ (p : Addr) (ws : List (Key × V)) (ns : List Int), xs = [.ref p] ∧ H p = some (.dK ws) ∧ ws.map (·.1) = ns.map .inl ∧ ns.length < 64 ∧ ∀ (zs : List Int) l, zs.Perm ns → H l = none → Q (.ref l) (upd H l (.lst (zs.map V.int)))
theorem call_sortD {X : Cx} (hc : X.calm = true) : CallR X (.builtin "sorted") rSortD := by
 intro pins s σ H xs us Q I r h
 obtain ⟨p, ws, ns, rfl, hH, hk, h64, q⟩ := h
 obtain ⟨u, rfl, ru⟩ := Vals.one r
 cases ru
 obtain ⟨hz, hsm, kv, rkv, D⟩ := I.hok p _ hH
 obtain ⟨ep, D⟩ := D.dictAt
 have lkv : ws.length = kv.length := Paired.length rkv
 have lw : ws.length = ns.length := by have := congrArg List.length hk; simpa using this
 refine Calls.call_function_entry kind_sorted plain_sorted entry_sorted (args_sorted1 _) ?_
 unfold Builtin.«sorted»
 refine wpAny_bind (m := checkCount "sorted" 1 1 _) (wpAny_pure ?_)
 refine wpAny_bind (DU.collect_dict (knd := mixKind X.prog X.w) (by have := I.ok.hd hc; simpa using this) hsm D (by omega) fun h0 tk vs ext hlen hvs hsz => ?_)
 have rv0 : Vals (ws.map fun p => kV p.1) vs := keys_vals rkv (by omega) hvs
 have ek : (ws.map fun p => kV p.1) = ns.map V.int := by
   rw [show (ws.map fun p => kV p.1) = (ws.map (·.1)).map kV by rw [List.map_map]; rfl, hk, List.map_map]
   rfl
 have rv : Vals (ns.map V.int) vs := by rw [← ek]; exact rv0
 have lv : vs.length = ns.length := by omega
 refine wpAny_bind (wpAny_newList ?_ (by rw [sizeLine_eq]; omega))
 have eL : (h0.push (seqObj "list" vs.toArray 0)).get? h0.objs.size = some (seqObj "list" vs.toArray 0) := Heap.get?_push_size _ rfl
 refine wpAny_bind (wpAny_holding (wpAny_call_entry slot_list_sort ⟨_, eL, rfl⟩ entry_list_sort (sort_keys (s := { s with heap := h0.push (seqObj "list" vs.toArray 0), toks := tk }) eL (by omega) (keys_int (ns := ns) rfl fun i v hv => vals_nums rv i v hv) fun ix o => ⟨_, rfl, ?_⟩) (args_list_sort _)))
 obtain ⟨c, ec⟩ := sortedHeap_at (out := (pickV vs ix).toArray) eL
 have le : s.heap.objs.size ≤ h0.objs.size := Nat.le_of_lt hsz
 have hn : H h0.objs.size = none := I.hok.fresh le
 have o' := o
 rw [lv] at o'
 have ep : pickL V.non (ns.map V.int) ix = ((List.range ns.length).map fun i => ns.getD (ix i) 0).map V.int := by
   unfold pickL
   rw [List.length_map, List.map_map]
   refine List.map_congr_left fun i hi => ?_
   have lt := o'.bj.lt i (List.mem_range.mp hi)
   show (ns.map V.int).getD (ix i) V.non = V.int (ns.getD (ix i) 0)
   rw [List.getD_eq_getElem?_getD, List.getElem?_map, List.getD_eq_getElem?_getD, List.getElem?_eq_getElem lt]
   rfl
 have pv := Vals.pick rv o.bj
 refine wpAny_pure ⟨_, rfl, .ref h0.objs.size, _, I.laid (a := h0.objs.size) (o := .lst (((List.range ns.length).map fun i => ns.getD (ix i) 0).map V.int)) (t' := tk) (fun b u e => ?_) le ?_, rfl, q _ _ (o'.perm rfl) hn⟩
 · have eb := ext b u e
   have nb : b ≠ h0.objs.size := Nat.ne_of_lt (Heap.lt_size eb)
   show (sortedHeap (h0.push (seqObj "list" vs.toArray 0)) h0.objs.size vs _).get? b = _
   rw [sortedHeap_old nb (by rw [size_push']; exact Nat.lt_succ_of_lt (Heap.lt_size eb))]
   exact Heap.get?_push_of_some _ eb
 · refine ⟨?_, pickV vs ix, c, ?_, ec⟩
   · rw [List.length_map, List.length_map, List.length_range, sizeLine_eq]; omega
   · rw [← ep]; exact pv
section
variable {K : PySem.W.Frag} {O : Ob}
def srtDN (n : Nat) : DE := fun ρ Q => ∃ kvs, dnIn n ρ kvs ∧ kvs.length < 64 ∧ ∀ zs : List Int, zs.Perm (kvs.map (·.1)) → Q (.n (zs.map .int))
theorem isAll_intsOf {F : Addr → Prop} {H : Hp} : ∀ zs : List Int, IsAll K F H (zs.map V.int) (zs.map .int)
 | [] => .nil
 | _ :: zs => .cons (.int _) (isAll_intsOf zs)
theorem ed_srtDN {n : Nat} : ED K O (tCB rSortD (tCons (tVar n) tNil)) (srtDN n) := fun σ H ρ Q Qd S q k => by
 obtain ⟨kvs, hd, h64, q⟩ := q
 obtain ⟨a, ws, h1, nm, e, z⟩ := dn_seen S hd
 refine ⟨_, h1, a, ws, kvs.map (·.1), rfl, e, by rw [z.keys, List.map_map]; rfl, by rw [List.length_map]; exact h64, fun zs l pz hl => ?_⟩
 have nM : ¬ O.M l := fun m => by obtain ⟨o, w⟩ := S.ok.here H l S.p m; rw [hl] at w; cases w
 exact k _ _ (.n (zs.map .int)) (.new S.ok hl _) ⟨l, _, rfl, hl, upd_same, isAll_intsOf zs⟩ (q zs pz)
end
theorem e_srtDN {ι κ : Type} {P : Program} {w : World} {K : PySem.W.Frag} {mg : Str → Option Value} {base : Heap} {k : Nat} {X : ι → Cx} {O : κ → Ob} {x : Str} {px p1 pos : Pos} (n : Nat) (C : Ctx3 P w K mg base k X) (B : Blt mg) (hN : ∀ i, (X i).N[n]? = some x := by intro i; rfl) (hv : ∀ i, Vis (X i).env.scope x := by intro i; first | exact Or.inl rfl | exact Or.inr (Or.inl rfl) | exact Or.inr (Or.inr rfl)) (hd : (x == ("__debug__" : Str)) = false := by decide) (hcd : (x == ("__classdict__" : Str)) = false := by decide) (hg : ∀ i, Gl (X i) "sorted" := by intro i; rfl) (he : ∀ i, starEach [.Name x px] (X i).env = [(false, eval (.Name x px) (X i).env)] := by intro i; rfl) :
   E3 K X O (.Call (.Name "sorted" p1) [.Name x px] [] pos) (srtDN n) :=
 ⟨_, fun i => pe_callB (X := X i) (call_sortD (C.calm i)) (hg i) (by rw [C.hmg]; exact B.sorted) bt_sorted (pa_cons (pe_var (pos := px) (hN i) (hv i) hd hcd) pa_nil (he i)) (by decide) (by decide) (he i), fun j => ed_srtDN⟩
end L3
namespace L3
open PySem PySem.Spec
open PyProof.Rows hiding St
open L2
theorem nice_int9 {i : Int} (h0 : -1 ≤ i) (h1 : i < 1000000000000) : Nice 0 0 (.int i) := by
 rcases (show i < 0 ∨ 0 ≤ i by omega) with z | z
 · obtain rfl : i = -1 := by omega
   exact ⟨rfl, by decide +kernel, by decide +kernel, Nat.le_refl _, Nat.le_refl _, rfl⟩
 · obtain ⟨n, rfl⟩ := Int.eq_ofNat_of_zero_le z
   refine ⟨rfl, ?_, ?_, Nat.le_refl _, Nat.le_refl _, rfl⟩
   · rw [PyData.showable, Int.natAbs_natCast]
     have : n < 2 ^ 40 := by omega
     have l : n.log2 < 40 := by
       rcases Nat.eq_zero_or_pos n with e | e
       · subst e; decide
       · exact (Nat.log2_lt (by omega)).mpr this
     exact decide_eq_true (by omega)
   · rw [PyData.leavesShort, PyData.shown_int]
     refine decide_eq_true ?_
     show (Str.ofString (toString ((n : Nat) : Int))).cps.size ≤ 13
     have e := PySem.W.KIN.signs_num n
     have e2 : (Str.ofString (toString ((n : Nat) : Int))).cps.size = (Nat.toDigits 10 n).length := by
       rw [← Array.length_toList, e, List.length_map]
     rw [e2]
     exact (Nat.length_toDigits_le_iff (by decide) (by decide)).mpr (by omega)
end L3
namespace L3
open PySem PySem.Spec
open PyProof.Rows hiding St
open L2
def tPop0 (K : PySem.W.Frag) (m : Nat) : TE := tBM K "list" rPopAt (tVar m) (tCons (tC (.int 0)) tNil)
section
variable {K : PySem.W.Frag} {O : Ob} {H₀ H : Hp} {A : Nat → Addr → Prop} {σ : St} {ρ : DSt}
theorem pop0_ok {m : Nat} {d : PyData} {ds : List PyData} {Q : VK} (r : Rep K O H₀ A H σ ρ) (e : ρ[m]? = some (some (.own (d :: ds)))) (fl : flat d = true)
   (k : ∀ y H', Rep K O H₀ A H' σ (ρ.set m (some (.own ds))) → Frm O A H A H' → (∀ F, Is K F H' y d) → Q y H') : tPop0 K m σ H Q := by
 obtain ⟨v, hv, a, xs, rfl, ha, hl, hs⟩ := r.at_ m _ e
 cases hs with
 | @cons y ys _ _ iy hs =>
   refine ⟨_, hv, .inl ⟨rfl, _, .of hl⟩, a, y :: ys, 0, 0, y, rfl, rfl, hl, by decide, by decide, ?_, rfl, ?_⟩
   · unfold seqIndex?; simp
   · have ts : TupStay H (upd H a (.lst ys)) := fun b o ho hb => by
       rw [upd_ne]
       · exact hb
       · intro z
         subst z
         rw [hl] at hb
         cases hb
         obtain ⟨ys, h1 | ⟨_, h1⟩⟩ := ho <;> cases h1
     exact k y _ (r.change e hv ha hs) (Frm.change ha) fun F => Is.flat ts iy fl
def appPop (n m : Nat) (fc : DT) (fa : DE) : DS := fun Dd ρ => ∃ xs, ρ[n]? = some (some (.own xs)) ∧ xs.length < sizeLine ∧ n ≠ m ∧ fc ρ fun b => if b = true then ∃ d ds, ρ[m]? = some (some (.own (d :: ds))) ∧ flat d = true ∧ Dd.nx ((ρ.set m (some (.own ds))).set n (some (.own (xs ++ [d])))) else fa ρ fun r => flat r.d = true ∧ Dd.nx (ρ.set n (some (.own (xs ++ [r.d]))))
theorem sd_appPop {n m : Nat} {tc : TT} {ta : TE} {fc : DT} {fa : DE} (hc : TD K O tc fc) (ha : ED K O ta fa) : SD K O (tDrop (tBM K "list" rAppend (tVar n) (tCons (tIf tc (tPop0 K m) ta) tNil))) (appPop n m fc fa) := fun H₀ A σ H ρ D Dd r q P => by
 obtain ⟨xs, e, hz, ne, q⟩ := q
 obtain ⟨v, hv, a, ws, rfl, hA, hl, hs⟩ := r.at_ n _ e
 refine ⟨_, hv, .inl ⟨rfl, ws, .of hl⟩, ?_⟩
 refine hc σ H ρ _ _ r.seen q fun b H1 s1 q1 => ?_
 have r1 := r.stp s1
 cases b with
 | true =>
   obtain ⟨d, ds, em, fl, q1⟩ := q1
   show tPop0 K m σ H1 _
   refine pop0_ok r1 em fl fun y H2 r2 f2 iy => ?_
   have e2 : (ρ.set m (some (.own ds)))[n]? = some (some (.own xs)) := by rw [List.getElem?_set_ne (Ne.symm ne)]; exact e
   obtain ⟨v2, hv2, a2, ws2, ev, hA2, hl2, hs2⟩ := r2.at_ n _ e2
   rw [hv] at hv2
   cases hv2
   cases ev
   refine ⟨a, ws2, y, rfl, rfl, hl2, by rw [hs2.length]; exact hz, ?_⟩
   exact P.nx A σ _ _ (r2.change e2 hv hA2 (hs2.snoc (iy _))) (((Frm.stp s1).trans f2).trans (.change hA2)) q1
 | false =>
   show ta σ H1 _
   refine ha σ H1 ρ _ _ r1.seen q1 fun w H2 x s2 o2 ⟨fl, q2⟩ => ?_
   have r2 := r1.stp s2
   obtain ⟨v2, hv2, a2, ws2, ev, hA2, hl2, hs2⟩ := r2.at_ n _ e
   rw [hv] at hv2
   cases hv2
   cases ev
   refine ⟨a, ws2, w, rfl, rfl, hl2, by rw [hs2.length]; exact hz, ?_⟩
   have iw : Is K (unO O A) H2 w x.d := Is.flat (TupStay.refl H2) (o2.is r1.ok r1.p) fl
   exact P.nx A σ _ _ (r2.change e hv hA2 (hs2.snoc iw)) (((Frm.stp s1).trans (.stp s2)).trans (.change hA2)) q2
def addPop (n m : Nat) (fe : DE) (fc : DT) (fa : DE) : DS := fun Dd ρ => fe ρ fun r => ∃ s : Str, r.d = .str s ∧ fc ρ fun b => if b = true then fa ρ fun r1 => ∃ t y : Str, r1.d = .str t ∧ addF (.str s) (.str t) = some (.o (.str y)) ∧ Dd.nx (ρ.set n (some (.im (.str y)))) else ∃ (t y : Str) (ds : List PyData), ρ[m]? = some (some (.own (.str t :: ds))) ∧ addF (.str s) (.str t) = some (.o (.str y)) ∧ Dd.nx ((ρ.set m (some (.own ds))).set n (some (.im (.str y))))
theorem sd_addPop {n m : Nat} {te ta : TE} {tc : TT} {fe fa : DE} {fc : DT} (he : ED K O te fe) (hc : TD K O tc fc) (ha : ED K O ta fa) : SD K O (tAsg (tOp (rAddU K) te (tIf tc ta (tPop0 K m))) (gName n)) (addPop n m fe fc fa) := fun H₀ A σ H ρ D Dd r q P => by
 refine he σ H ρ _ _ r.seen q fun v H1 x s1 o1 ⟨s, ex, q1⟩ => ?_
 have r1 := r.stp s1
 have iv := o1.is r.ok r.p
 rw [ex] at iv
 cases iv
 refine hc σ H1 ρ _ _ r1.seen q1 fun b H2 s2 q2 => ?_
 have r2 := r1.stp s2
 cases b with
 | true =>
   show ta σ H2 _
   refine ha σ H2 ρ _ _ r2.seen q2 fun w H3 z s3 o3 ⟨t, y, ez, eq, q3⟩ => ?_
   have r3 := r2.stp s3
   have iw := o3.is r2.ok r2.p
   rw [ez] at iw
   refine opd_add (O := O) (K := K) H3 _ _ (.str s) (.str t) _ (fun z => z = .o (.str y)) r3.ok r3.p (Is.str _) iw ⟨_, eq, rfl⟩ fun u H4 c s4 o4 ec => ?_
   subst ec
   exact P.nx _ _ H4 _ ((r3.stp s4).setIm (Is.flat (TupStay.refl H4) o4 rfl)) ((((Frm.stp s1).trans (.stp s2)).trans (.stp s3)).trans (.setIm s4)) q3
 | false =>
   obtain ⟨t, y, ds, em, eq, q2⟩ := q2
   show tPop0 K m σ H2 _
   refine pop0_ok r2 em rfl fun w H3 r3 f3 iw => ?_
   refine opd_add (O := O) (K := K) H3 _ _ (.str s) (.str t) _ (fun z => z = .o (.str y)) r3.ok r3.p (Is.str _) (iw _) ⟨_, eq, rfl⟩ fun u H4 c s4 o4 ec => ?_
   subst ec
   exact P.nx _ _ H4 _ ((r3.stp s4).setIm (Is.flat (TupStay.refl H4) o4 rfl)) ((((Frm.stp s1).trans (.stp s2)).trans f3).trans (.setIm s4)) q2
end
section
variable {ι κ : Type} {P : Program} {w : World} {K : PySem.W.Frag} {mg : Str → Option Value} {base : Heap} {k : Nat} {X : ι → Cx} {O : κ → Ob} {a b c e : Expr} {fa fe : DE} {fc : DT} {pos : Pos} {x y : Str} {px py apos cpos p0 p1 p2 p3 p4 : Pos} {j0 : Nat}
theorem pe_pop0 {X : Cx} {m : Nat} (hM : X.N[m]? = some y) (hv : Vis X.env.scope y) (hd : (y == ("__debug__" : Str)) = false) (hcd : (y == ("__classdict__" : Str)) = false) (hbase : attributeBase (.Name y py) "pop" X.env (eval (.Name y py) X.env) = eval (.Name y py) X.env) (hline : (apos.endLine == cpos.line) = true)
   (hfew : ((backTo cpos (starEach [.Constant (.int 0) j0 p0] X.env)).all (fun x => !x.1) && (backToKw cpos (keywordEach [] X.env)).all (fun x => x.1.isSome) && decide (([.Constant (.int 0) j0 p0] : List Expr).length + ([] : List Keyword).length + (if ([] : List Keyword).isEmpty then 0 else 1) < 30)) = true)
   (hs : starEach [.Constant (.int 0) j0 p0] X.env = [(false, eval (.Constant (.int 0) j0 p0) X.env)]) :
   PE X (.Call (.Attribute (.Name y py) "pop" apos) [.Constant (.int 0) j0 p0] [] cpos) (tPop0 X.K m) :=
 pe_bm (apos := apos) (cpos := cpos) PySem.F.plainAttrs_list PySem.F.slot_list_pop PySem.F.type_list_pop (mtr_popAt (X := X)) (pe_var (pos := py) hM hv hd hcd) (pa_cons pe_int pa_nil hs) hbase hfew hline hs
theorem s_appPop (n m : Nat) (C : Ctx3 P w K mg base k X) (hc : T3 K X O c fc) (ha : E3 K X O a fa) (hN : ∀ i, (X i).N[n]? = some x := by intro i; rfl) (hv : ∀ i, Vis (X i).env.scope x := by intro i; first | exact Or.inl rfl | exact Or.inr (Or.inl rfl) | exact Or.inr (Or.inr rfl)) (hd : (x == ("__debug__" : Str)) = false := by decide) (hcd : (x == ("__classdict__" : Str)) = false := by decide)
   (hM : ∀ i, (X i).N[m]? = some y := by intro i; rfl) (hvy : ∀ i, Vis (X i).env.scope y := by intro i; first | exact Or.inl rfl | exact Or.inr (Or.inl rfl) | exact Or.inr (Or.inr rfl)) (hdy : (y == ("__debug__" : Str)) = false := by decide) (hcy : (y == ("__classdict__" : Str)) = false := by decide)
   (hb0 : ∀ i, attributeBase (.Name y py) "pop" (X i).env (eval (.Name y py) (X i).env) = eval (.Name y py) (X i).env := by intro i; rfl) (hl0 : (p1.endLine == p2.line) = true := by rfl)
   (hf0 : ∀ i, ((backTo p2 (starEach [.Constant (.int 0) j0 p0] (X i).env)).all (fun x => !x.1) && (backToKw p2 (keywordEach [] (X i).env)).all (fun x => x.1.isSome) && decide (([.Constant (.int 0) j0 p0] : List Expr).length + ([] : List Keyword).length + (if ([] : List Keyword).isEmpty then 0 else 1) < 30)) = true := by intro i; rfl)
   (hs0 : ∀ i, starEach [.Constant (.int 0) j0 p0] (X i).env = [(false, eval (.Constant (.int 0) j0 p0) (X i).env)] := by intro i; rfl)
   (hbase : ∀ i, attributeBase (.Name x px) "append" (X i).env (eval (.Name x px) (X i).env) = eval (.Name x px) (X i).env := by intro i; rfl)
   (hfew : ∀ i, ((backTo cpos (starEach [.IfExp c (.Call (.Attribute (.Name y py) "pop" p1) [.Constant (.int 0) j0 p0] [] p2) a p3] (X i).env)).all (fun x => !x.1) && (backToKw cpos (keywordEach [] (X i).env)).all (fun x => x.1.isSome) && decide (([.IfExp c (.Call (.Attribute (.Name y py) "pop" p1) [.Constant (.int 0) j0 p0] [] p2) a p3] : List Expr).length + ([] : List Keyword).length + (if ([] : List Keyword).isEmpty then 0 else 1) < 30)) = true := by intro i; rfl)
   (hline : (apos.endLine == cpos.line) = true := by rfl) (hs : ∀ i, starEach [.IfExp c (.Call (.Attribute (.Name y py) "pop" p1) [.Constant (.int 0) j0 p0] [] p2) a p3] (X i).env = [(false, eval (.IfExp c (.Call (.Attribute (.Name y py) "pop" p1) [.Constant (.int 0) j0 p0] [] p2) a p3) (X i).env)] := by intro i; rfl)
   (hsw : ∀ i, swapsWith (.Call (.Attribute (.Name x px) "append" apos) [.IfExp c (.Call (.Attribute (.Name y py) "pop" p1) [.Constant (.int 0) j0 p0] [] p2) a p3] [] cpos) none pos.line (X i).env = pure false := by intro i; rfl) :
   S3 K X O (.Expr (.Call (.Attribute (.Name x px) "append" apos) [.IfExp c (.Call (.Attribute (.Name y py) "pop" p1) [.Constant (.int 0) j0 p0] [] p2) a p3] [] cpos) pos) (appPop n m fc fa) :=
 let ⟨tc, q, d⟩ := hc; let ⟨t1, q1, d1⟩ := ha; ⟨tDrop (tBM K "list" rAppend (tVar n) (tCons (tIf tc (tPop0 K m) t1) tNil)), fun i => by
   have h0 := pe_pop0 (X := X i) (py := py) (apos := p1) (cpos := p2) (hM i) (hvy i) hdy hcy (hb0 i) hl0 (hf0 i) (hs0 i)
   have h := pe_bm (apos := apos) (cpos := cpos) PySem.F.plainAttrs_list PySem.F.slot_list_append PySem.F.type_list_append (mtr_append (X := X i)) (pe_var (pos := px) (hN i) (hv i) hd hcd) (pa_cons (pe_ifExp (pos := p3) (q i) h0 (q1 i)) pa_nil (hs i)) (hbase i) (hfew i) hline (hs i)
   rw [C.hK] at h
   exact ps_expr h (hsw i), fun j => sd_appPop (d j) (d1 j)⟩
theorem s_addPop (n m : Nat) (C : Ctx3 P w K mg base k X) (he : E3 K X O e fe) (hc : T3 K X O c fc) (ha : E3 K X O a fa) (hM : ∀ i, (X i).N[m]? = some y := by intro i; rfl) (hvy : ∀ i, Vis (X i).env.scope y := by intro i; first | exact Or.inl rfl | exact Or.inr (Or.inl rfl) | exact Or.inr (Or.inr rfl)) (hdy : (y == ("__debug__" : Str)) = false := by decide) (hcy : (y == ("__classdict__" : Str)) = false := by decide)
   (hb0 : ∀ i, attributeBase (.Name y py) "pop" (X i).env (eval (.Name y py) (X i).env) = eval (.Name y py) (X i).env := by intro i; rfl) (hl0 : (p1.endLine == p2.line) = true := by rfl)
   (hf0 : ∀ i, ((backTo p2 (starEach [.Constant (.int 0) j0 p0] (X i).env)).all (fun x => !x.1) && (backToKw p2 (keywordEach [] (X i).env)).all (fun x => x.1.isSome) && decide (([.Constant (.int 0) j0 p0] : List Expr).length + ([] : List Keyword).length + (if ([] : List Keyword).isEmpty then 0 else 1) < 30)) = true := by intro i; rfl)
   (hs0 : ∀ i, starEach [.Constant (.int 0) j0 p0] (X i).env = [(false, eval (.Constant (.int 0) j0 p0) (X i).env)] := by intro i; rfl)
   (hN : ∀ i, (X i).N.Nodup := by intro i; exact of_decide_eq_true (by kernel_rfl)) (hi : ∀ i, (X i).N[n]? = some x := by intro i; rfl) (hx : ∀ i, Loc (X i).env.scope x := by intro i; first | exact Or.inl rfl | exact Or.inr rfl)
   (hs : ∀ i, swapsWith (.BinOp e .Add (.IfExp c a (.Call (.Attribute (.Name y py) "pop" p1) [.Constant (.int 0) j0 p0] [] p2) p3) p4) (some (.Name x px)) pos.line (X i).env = pure false := by intro i; rfl) (hf : ∀ i, (X i).fn x = true ∨ (X i).env.scope.names.lookup x = some .local := by intro i; first | exact .inl rfl | exact .inr rfl) :
   S3 K X O (.Assign [.Name x px] (.BinOp e .Add (.IfExp c a (.Call (.Attribute (.Name y py) "pop" p1) [.Constant (.int 0) j0 p0] [] p2) p3) p4) pos) (addPop n m fe fc fa) :=
 let ⟨te, qe, de⟩ := he; let ⟨tc, q, d⟩ := hc; let ⟨t1, q1, d1⟩ := ha; ⟨tAsg (tOp (rAddU K) te (tIf tc t1 (tPop0 K m))) (gName n), fun i => by
   have h0 := pe_pop0 (X := X i) (py := py) (apos := p1) (cpos := p2) (hM i) (hvy i) hdy hcy (hb0 i) hl0 (hf0 i) (hs0 i)
   have h := pe_op (pos := p4) (op_addU (X := X i)) (qe i) (pe_ifExp (pos := p3) (q i) (q1 i) h0)
   rw [C.hK] at h
   exact ps_set (hN i) (hi i) (hx i) h (hs i) (hf i), fun j => sd_addPop (de j) (d j) (d1 j)⟩
end
end L3
namespace L3
open PySem PySem.Spec
open PyProof.Rows hiding St
open L2
theorem notin_range {prog : Program} {w : World} {A : Around} {E : Value → Shared → Prop} {s : Shared} {r : Addr} {i j : Int} {t u v y : Tok} {Q : Value → Shared → Prop} (hr : s.heap.get? r = some { cls := .type "range", data := .fields #[.int 0 t, .int j u, .int 1 v] })
   (h : Q (.bool (!(decide (0 ≤ i) && decide (i < j)))) s) : wpAny (model prog w) A (compareOp .NotIn (.int i y) (.ref r)) Q E s := by
 have T : s.TypeIs (.ref r) "range" := ⟨_, hr, rfl⟩
 show wpAny _ _ (contains (.ref r) (.int i y) >>= _) _ _ _
 refine wpAny_bind ?_
 unfold PySem.contains
 refine wpAny_holding ?_
 show wpAny _ _ (specialOf (.ref r) (Str.ofString "__contains__") >>= _) _ _ _
 refine wpAny_bind (wpAny_specialOf T PySem.F.slot_range_contains.lookup ?_)
 dsimp only
 rw [if_neg (by decide)]
 refine wpAny_bind (wpAny_callSpecialUnlessNone?_slot T PySem.F.slot_range_contains (wpAny_call_entry PySem.F.slot_range_contains T PySem.F.entry_range_contains ?_ (PySem.F.args_range_contains_2 _ _)))
 unfold Builtin.«range.__contains__»
 have f0 : ∀ {A : Around} {Q : Value → Shared → Prop}, Q (.int 0 t) s → wpAny (model prog w) A (field (.ref r) 0) Q E s := fun q => wpAny_field hr rfl rfl q
 have f1 : ∀ {A : Around} {Q : Value → Shared → Prop}, Q (.int j u) s → wpAny (model prog w) A (field (.ref r) 1) Q E s := fun q => wpAny_field hr rfl rfl q
 have f2 : ∀ {A : Around} {Q : Value → Shared → Prop}, Q (.int 1 v) s → wpAny (model prog w) A (field (.ref r) 2) Q E s := fun q => wpAny_field hr rfl rfl q
 wp_walk using f0, f1, f2
 refine ⟨_, rfl, ?_⟩
 dsimp only
 have e : (Builtin.Range.rangePlace? 0 j 1 i).isSome = (decide (0 ≤ i) && decide (i < j)) := by
   unfold Builtin.Range.rangePlace?
   cases h0 : decide (0 ≤ i) <;> cases h1 : decide (i < j) <;> simp_all
 rw [e]
 wp_walk
 exact h
def tNotR (ta : TE) (tb : TA) : TE := fun σ H Q => ta σ H fun x H1 => tb σ H1 fun vs H2 => ∃ i j : Int, x = .int i ∧ vs = [.int j] ∧ Q (.bl (!(decide (0 ≤ i) && decide (i < j)))) H2
theorem pc_notR {X : Cx} {a b : Expr} {ta : TE} {tb : TA} {p pos : Pos} (hg : Gl X "range") (hm : X.mg "range" = none) (hi : PE X a ta) (hb : PA X [b] tb) (hs : starEach [b] X.env = [(false, eval b X.env)] := by rfl) : PC X .NotIn a (.Call (.Name "range" p) [b] [] pos) (tNotR ta tb) := by
 intro pins s σ H Q I h
 refine thn (hi pins s σ H _ I h) fun iv s1 ⟨x, H1, I1, rx, q1⟩ => ?_
 refine Call_ (ld_blt I1 hg hm boot_range (PyProof.Rows.callWith_type1 (thn (hb pos pins s1 σ H1 _ I1 q1) fun us s2 ⟨vs, H2, I2, r2, q2⟩ => ?_) hs rfl))
 obtain ⟨i, j, rfl, rfl, q⟩ := q2
 obtain ⟨y, rfl⟩ := rx
 cases r2 with
 | cons r rr =>
   cases rr
   obtain ⟨t, rfl⟩ := r
   refine call_range_1 (notin_range (Heap.get?_push_size _ rfl) ?_)
   exact ⟨.bl (!(decide (0 ≤ i) && decide (i < j))), H2, I2.kept fun b o e => Heap.get?_push_of_some _ e, rfl, q⟩
section
variable {K : PySem.W.Frag} {O : Ob}
def notRD (fa : DE) (gb : DA) : DT := fun ρ Q => fa ρ fun r => gb ρ fun ds => ∃ i j : Int, r.d = .int i ∧ ds = [.int j] ∧ Q (!(decide (0 ≤ i) && decide (i < j)))
theorem td_notR {ta : TE} {tb : TA} {fa : DE} {gb : DA} (ha : ED K O ta fa) (hb : AD K O tb gb) : TD K O (tB (tNotR ta tb)) (notRD fa gb) := fun σ H ρ Q Qd S hf k => by
 refine ha σ H ρ _ _ S hf fun x H1 r s1 o1 q1 => ?_
 refine hb σ H1 ρ _ _ (S.stp s1) q1 fun vs H2 ds s2 is ⟨i, j, e1, e2, q2⟩ => ?_
 have ix := o1.is S.ok S.p
 rw [e1] at ix
 cases ix
 subst e2
 cases is with
 | cons i1 is =>
   cases is
   cases i1
   exact ⟨i, j, rfl, rfl, _, rfl, k _ H2 (s1.trans s2) q2⟩
end
theorem t_notR {ι κ : Type} {P : Program} {w : World} {K : PySem.W.Frag} {mg : Str → Option Value} {base : Heap} {k : Nat} {X : ι → Cx} {O : κ → Ob} {a b : Expr} {fa : DE} {gb : DA} {p pos p2 : Pos} (C : Ctx3 P w K mg base k X) (B : Blt mg) (ha : E3 K X O a fa) (hb : A3 K X O [b] gb) (hg : ∀ i, Gl (X i) "range" := by intro i; rfl)
   (hs : ∀ i, starEach [b] (X i).env = [(false, eval b (X i).env)] := by intro i; rfl) (hm : behindInMarks .NotIn (.Call (.Name "range" p) [b] [] p2) = false := by rfl) : T3 K X O (.Compare a [.NotIn] [.Call (.Name "range" p) [b] [] p2] pos) (notRD fa gb) :=
 let ⟨_, p1, d1⟩ := ha; let ⟨_, q1, e1⟩ := hb; ⟨_, fun i => pt_cmp (pc_notR (hg i) (by rw [C.hmg]; exact B.range) (p1 i) (q1 i) (hs i)) hm, fun j => td_notR (d1 j) (e1 j)⟩
end L3
namespace RVT
open PySem PySem.Spec PyProof.Rows RT
theorem tup_norev : typeLookup (.type "tuple") "__reversed__" = pure none := by rw [typeLookup_type, builtinLookup_eq_fast]; kernel_rfl
theorem tup_nodict : isSubtype (.type "tuple") (.type "dict") = pure false := by rw [isSubtype_type]; kernel_rfl
theorem tup_item : typeLookup (.type "tuple") "__getitem__" = pure (some (.builtin "tuple.__getitem__")) := by rw [typeLookup_type, builtinLookup_eq_fast]; kernel_rfl
def revT (p : Addr) (i : Int) : Obj := { cls := .type "reversed", data := .fields #[.ref p, rawInt i] }
theorem meets_new (p : Addr) (items : Array Value) (hf : (items.size : Int) < 2 ^ 63) :
   Meets (Builtin.«reversed.__new__» ⟨[.type "reversed", .ref p], []⟩) (fun _ R s => IsTup s.heap p items ∧ ∀ tk, R (.ok (.ret (.ref s.heap.objs.size))) { s with heap := s.heap.push (revT p ((items.size : Int) - 1)), toks := tk }) :=
 .of_wp fun prog w A R s ⟨ht, h⟩ => by
   obtain ⟨hp, g, d, tk, os⟩ := s
   have h1 := tup_norev
   have h2 := tup_nodict
   have h3 := F.sub_reversed_self
   have h4 := tup_item
   obtain ⟨⟨cls, data, dict, slots⟩, ho, hc, n, hd⟩ := id ht
   dsimp only at hc hd
   subst hc hd
   have ho : hp.get? p = some _ := ho
   wp_walk using len_tuple ht hf
   exact ⟨_, rfl, h _⟩
section
variable {prog : Program} {w : World} {A : Around} {E : Value → Shared → Prop} {s : Shared}
theorem call_rev {p : Addr} {items : Array Value} {Q : Value → Shared → Prop} (hf : (items.size : Int) < 2 ^ 63) (ht : IsTup s.heap p items) (h : ∀ tk, Q (.ref s.heap.objs.size) { s with heap := s.heap.push (revT p ((items.size : Int) - 1)), toks := tk }) :
   wpAny (model prog w) A (call (.type "reversed") [.ref p]) Q E s :=
 callType_new called_rev (by decide) (F.typeCall_reversed_1 _) (F.newCall_reversed_1 _) (fun obj => F.args_object_init_2 obj _) F.entry_reversed_new (meets_new p items hf) ⟨ht, fun tk => ⟨⟨_, Heap.get?_push_size _ rfl, rfl⟩, h tk⟩⟩
def IsRevT (h : Heap) (it p : Addr) (i : Int) : Prop := ∃ o, h.get? it = some o ∧ o.cls = .type "reversed" ∧ o.data = .fields #[.ref p, rawInt i]
theorem IsRevT.typeIs {it p : Addr} {i : Int} (h : IsRevT s.heap it p i) : s.TypeIs (.ref it) "reversed" := let ⟨o, ho, hc, _⟩ := h; ⟨o, ho, hc⟩
theorem next_item {it p : Addr} {items : Array Value} {i : Nat} {c : Value} {Q : Option Value → Shared → Prop} (hit : IsRevT s.heap it p (i : Int)) (ht : IsTup s.heap p items) (hx : items[i]? = some c) (hi : (i : Int) < 2 ^ 63)
   (hQ : ∀ h' tk, IsRevT h' it p ((i : Int) - 1) → Heap.SameBut it s.heap h' → Q (some c) { s with heap := h', toks := tk }) : wpAny (model prog w) A (pyNext (.ref it)) Q E s := by
 obtain ⟨o, ho, hc, hd⟩ := id hit
 have hlt : i < items.size := by
   obtain ⟨z, _⟩ := Array.getElem?_eq_some_iff.mp hx
   exact z
 unfold pyNext
 refine wpAny_bind (wpAny_attempt (wpAny_callSpecial?_slot (name := Str.ofString "__next__") hit.typeIs slot_rev_next
   (wpAny_call_entry slot_rev_next hit.typeIs entry_rev_next ?_ (args_rev_next _))))
 unfold Builtin.«reversed.__next__»
 refine wpAny_bind (wpAny_of_eq (a := (Value.ref it, [])) rfl ?_)
 try dsimp only
 refine wpAny_bind (wpAny_field ho hd (x := .ref p) rfl ?_)
 refine wpAny_bind (wpAny_field ho hd (x := rawInt (i : Int)) rfl ?_)
 show wpAny _ _ (if (i : Int) < 0 then _ else _) _ _ s
 rw [if_neg (by omega)]
 refine wpAny_bind (wpAny_specialOf ht.typeIs tup_item ?_)
 refine SX.wp_f (by decide) ?_
 refine wpAny_bind (wpAny_mkInt ?_)
 have hk : seqIndex? (i : Int) items.size = some i := by
   unfold seqIndex?
   have h0 : ¬ ((i : Int) < 0) := by omega
   simp [h0, hlt]
 refine wpAny_bind (wpAny_attempt (getItem_tuple ht (by omega) hi hk hx ?_))
 refine wpAny_bind (wpAny_field ho hd (x := rawInt (i : Int)) rfl ?_)
 refine wpAny_bind (wpAny_setField ho hd (by simp) ?_)
 refine wpAny_pure ⟨_, rfl, wpAny_pure (hQ _ _ ?_ (Heap.SameBut.update ..))⟩
 exact ⟨_, Heap.get?_update_self _ ho (Obj.isFreed_of_fields (Obj.data_mapFields hd _)), (Obj.cls_mapFields ..).trans hc, by
   rw [Obj.data_mapFields hd]; simp⟩
theorem next_end {it p : Addr} {Q : Option Value → Shared → Prop} (hh : A.handled = none) (hit : IsRevT s.heap it p (-1))
   (hQ : ∀ h', Heap.ExtBut it s.heap h' → Q none { s with heap := h' }) : wpAny (model prog w) A (pyNext (.ref it)) Q E s := by
 obtain ⟨o, ho, hc, hd⟩ := id hit
 unfold pyNext
 refine wpAny_bind (wpAny_attempt (wpAny_callSpecial?_slot (name := Str.ofString "__next__") hit.typeIs slot_rev_next
   (wpAny_call_entry slot_rev_next hit.typeIs entry_rev_next ?_ (args_rev_next _))))
 unfold Builtin.«reversed.__next__»
 refine wpAny_bind (wpAny_of_eq (a := (Value.ref it, [])) rfl ?_)
 try dsimp only
 refine wpAny_bind (wpAny_field ho hd (x := .ref p) rfl ?_)
 refine wpAny_bind (wpAny_field ho hd (x := rawInt (-1)) rfl ?_)
 show wpAny _ _ (if (-1 : Int) < 0 then _ else _) _ _ s
 rw [if_pos (by decide)]
 refine wpAny_bind (wpAny_rule ?_)
 refine wpAny_bind ?_
 refine wpAny_bind (wpAny_setField ho hd (by simp) ?_)
 have e1 := Heap.get?_update_self (Obj.mapFields (·.setIfInBounds 1 (rawInt (-1)))) ho (Obj.isFreed_of_fields (Obj.data_mapFields hd _))
 refine wpAny_setField e1 (Obj.data_mapFields hd _) (by simp) ?_
 first
 | show wpAny _ _ (newExc (.type "StopIteration") [] >>= _) _ _ _
 | (refine wpAny_bind ?_; show wpAny _ _ (newExc (.type "StopIteration") [] >>= _) _ _ _)
 refine wpAny_bind ?_
 simp only [newExc, newTuple]
 refine wpAny_bind (wpAny_newObj_type ?_ (by size_fits))
 refine wpAny_bind (m := firstArgMember _ _) (wpAny_of_eq (a := Value.none) (by first | rfl | (simp only [firstArgMember]; rfl)) ?_)
 refine wpAny_newObj_type ?_ (by size_fits)
 simp only [raiseNew]
 refine wpAny_bind (wpAny_handled ?_)
 first | rw [show A.in1.handled = none from hh] | rw [hh]
 refine wpAny_bind (wpAny_pure (wpAny_throw ?_))
 refine wpAny_bind (wpAny_isInstance (T := "StopIteration") (b := true) ⟨_, Heap.get?_push_size _ rfl, rfl⟩ isSubtype_stop ?_)
 exact wpAny_pure (hQ _ (((((Heap.SameBut.update ..).extBut.trans (Heap.SameBut.update ..).extBut)).push _).push _))
theorem iter_rev {it p : Addr} {i : Int} {Q : Value → Shared → Prop} (hit : IsRevT s.heap it p i) (h : Q (.ref it) s) : wpAny (model prog w) A (pyIter (.ref it)) Q E s := by
 refine wpAny_pyIter_slot hit.typeIs slot_rev_iter (wpAny_call_entry slot_rev_iter hit.typeIs entry_rev_iter ?_ (args_rev_iter _))
 show wpAny _ _ (ret (.ref it)) _ _ s
 exact wpAny_pure ⟨_, rfl, "reversed", _, hit.typeIs, slot_rev_next.lookup, h⟩
end
theorem IsRevT.at {h h' : Heap} {it p : Addr} {i : Int} (y : IsRevT h it p i) (e : ∀ o, h.get? it = some o → h'.get? it = some o) : IsRevT h' it p i := let ⟨o, ho, r⟩ := y; ⟨o, e _ ho, r⟩
theorem tup_at {h h' : Heap} {p : Addr} {items : Array Value} (y : IsTup h p items) (e : ∀ o, h.get? p = some o → h'.get? p = some o) : IsTup h' p items := let ⟨o, ho, r⟩ := y; ⟨o, e _ ho, r⟩
theorem walks {prog : Program} {w : World} {A : Around} (hh : A.handled = none) (I p : Addr) (hne : p ≠ I) (items : Array Value) (hx : (items.size : Int) < 2 ^ 62) :
   Walks prog w A I [I, p] [I] items.size (fun i v => items[items.size - 1 - i]? = some v) (fun i h => i ≤ items.size ∧ IsRevT h I p ((items.size : Int) - 1 - (i : Int)) ∧ IsTup h p items) where
 sub := fun b hb => by simp at hb; simp [hb]
 frame := fun _ _ _ y hk => ⟨y.1, y.2.1.at fun o e => hk I (by simp) o e, tup_at y.2.2 fun o e => hk p (by simp) o e⟩
 item := fun i s Q E hi y hQ => by
   have e : (items.size : Int) - 1 - (i : Int) = ((items.size - 1 - i : Nat) : Int) := by omega
   have hit := y.2.1
   rw [e] at hit
   have hc : items[items.size - 1 - i]? = some (items[items.size - 1 - i]'(by omega)) := Array.getElem?_eq_getElem (by omega)
   refine next_item hit y.2.2 hc (by omega) fun h' tk hit' hs' => ?_
   have e2 : ((items.size - 1 - i : Nat) : Int) - 1 = (items.size : Int) - 1 - ((i + 1 : Nat) : Int) := by omega
   rw [e2] at hit'
   exact hQ _ h' tk hc ⟨hi, hit', tup_at y.2.2 fun o eo => hs'.extBut p o hne eo⟩ fun b o hb eo => hs'.extBut b o (fun h => hb (by simp [h])) eo
 done := fun s Q E y hQ => by
   have e : (items.size : Int) - 1 - (items.size : Int) = -1 := by omega
   have hit := y.2.1
   rw [e] at hit
   exact next_end hh hit fun h' he' => hQ h' s.toks fun b o hb eo => he' b o (fun h => hb (by simp [h])) eo
 self := fun _ _ _ _ y hQ => iter_rev y.2.1 hQ
end RVT
namespace RVT
open PySem PySem.Spec PyProof.Rows SX
open RT (rev_nolen slot_rev_hint entry_rev_hint args_rev_hint split_rev_hint)
section
variable {prog : Program} {w : World} {A : Around} {E : Value → Shared → Prop} {s : Shared}
theorem call_hint {it p : Addr} {items : Array Value} {Q : Value → Shared → Prop} (hf : (items.size : Int) < 2 ^ 63) (ht : IsTup s.heap p items) (hit : IsRevT s.heap it p ((items.size : Int) - 1)) (h : ∀ tk u, Q (.int items.size u) { s with toks := tk }) : wpAny (model prog w) A (call (.builtin "reversed.__length_hint__") [.ref it]) Q E s := by
 obtain ⟨o, ho, hc, hd⟩ := id hit
 refine wpAny_call_entry slot_rev_hint hit.typeIs entry_rev_hint ?_ (args_rev_hint _)
 unfold Builtin.«reversed.__length_hint__»
 refine wpAny_bind (wpAny_of_eq (a := Value.ref it) rfl ?_)
 refine wpAny_bind (wpAny_field ho hd (x := .ref p) rfl ?_)
 refine SX.wp_f (by intro z; cases z) ?_
 refine wpAny_bind (len_tuple ht hf ?_)
 refine wpAny_bind (m := asInt? (.int items.size _)) (wpAny_pure ?_)
 dsimp only
 refine wpAny_bind (wpAny_field ho hd (x := rawInt ((items.size : Int) - 1)) rfl ?_)
 show wpAny _ _ (if (items.size : Int) < (items.size : Int) - 1 + 1 then _ else _) _ _ _
 rw [if_neg (by omega), show (items.size : Int) - 1 + 1 = items.size by omega]
 refine wpAny_bind (wpAny_mkInt ?_)
 exact wpAny_pure ⟨_, rfl, h _ _⟩
theorem hint_rev {it p : Addr} {items : Array Value} {Q : Bool → Shared → Prop} (hf : items.size ≤ sizeLine) (ht : IsTup s.heap p items) (hit : IsRevT s.heap it p ((items.size : Int) - 1)) (h : ∀ tk, Q ((items.size : Int) != 0) { s with toks := tk }) : wpAny (model prog w) A (Builtin.List.listLengthHint (.ref it)) Q E s := by
 have sz := sizeLine_eq
 have sp := split_rev_hint
 unfold Builtin.List.listLengthHint
 refine wpAny_bind (wpAny_specialOf hit.typeIs rev_nolen (wpAny_bind (wpAny_specialOf hit.typeIs slot_rev_hint.lookup ?_)))
 revert sp
 generalize z : ("reversed.__length_hint__" : String) = nm
 intro sp
 dsimp only
 rw [sp]
 subst z
 refine wpAny_bind (wpAny_isInstance (b := true) hit.typeIs F.sub_reversed_self ?_)
 refine SX.wp_f (by decide) ?_
 refine SX.wp_f (by decide +kernel) ?_
 refine wpAny_bind (wpAny_rule ?_)
 refine wpAny_bind (wpAny_of_eq (slot_rev_hint.bind _) ?_)
 dsimp only
 refine wpAny_bind (wpAny_attempt (call_hint (by omega) ht hit fun tk u => ?_))
 have f1 : ¬ (!Builtin.List.listFitsIndex (items.size : Int)) = true := by
   have : Builtin.List.listFitsIndex (items.size : Int) = true := by
     unfold Builtin.List.listFitsIndex
     simp
     omega
   rw [this]
   decide
 have f2 : ¬ Builtin.List.listTooLong ((items.size : Int)).toNat = true := by
   unfold Builtin.List.listTooLong
   rw [Int.toNat_natCast]
   simp
   omega
 have f3 : ¬ ((items.size : Int) < 0) := by omega
 generalize (items.size : Int) = n at f1 f2 f3 h ⊢
 show wpAny _ _ (asInt? (.int n u) >>= _) _ _ _
 refine wpAny_bind (wpAny_pure ?_)
 dsimp only
 refine SX.wp_f f1 (SX.wp_f f3 (SX.wp_f f2 (wpAny_pure (h tk))))
theorem collect_rev {it p : Addr} {items : Array Value} {Q : List Value → Shared → Prop} (hh : A.handled = none) (hf : items.size ≤ sizeLine) (ht : IsTup s.heap p items) (hit : IsRevT s.heap it p ((items.size : Int) - 1))
   (k : ∀ (h' : Heap) (tk : Nat) (vs : List Value), (∀ b o, b ≠ it → s.heap.get? b = some o → h'.get? b = some o) → vs.length = items.size → (∀ (i : Nat) v, vs[i]? = some v → items[items.size - 1 - i]? = some v) → Q vs { s with heap := h', toks := tk }) : wpAny (model prog w) A (collect (.ref it)) Q E s := by
 have sz := sizeLine_eq
 obtain ⟨o, ho, hc, hd⟩ := id hit
 have hlt : it < s.heap.objs.size := Heap.lt_size ho
 have hltp : p < s.heap.objs.size := by obtain ⟨o, e, _⟩ := ht; exact Heap.lt_size e
 have hne0 : p ≠ it := fun z => by
   obtain ⟨o', e', c', _⟩ := ht
   subst z
   rw [ho] at e'
   cases e'
   rw [hc] at c'
   exact absurd c' (by decide)
 have t1 : IsTup (s.heap.push (lO #[] 0)) p items := tup_at ht fun o e => Heap.get?_push_of_some _ e
 unfold collect
 refine wpAny_bind (wpAny_runValue (codeAny_builtin F.entry_proto_collect ?_))
 rw [Around.under_plainId F.plain_proto_collect _]
 refine wpAny_bind (m := newList []) (wpAny_newObj_type ?_)
 refine wpAny_pure ⟨plainId_quiet F.plain_list_iadd _, codeAny_builtin F.entry_list_iadd ?_⟩
 rw [Around.under_plainId F.plain_list_iadd _]
 have r1 : IsRevT (s.heap.push (lO #[] 0)) it p ((items.size : Int) - 1) := hit.at fun o e => Heap.get?_push_of_some _ e
 have eL : (s.heap.push (lO #[] 0)).get? s.heap.objs.size = some (lO #[] 0) := Heap.get?_push_size _ rfl
 show wpAny _ A.in1 (Builtin.List.listExtendWith (.ref s.heap.objs.size) (.ref it) (.ref s.heap.objs.size)) _ _ { s with heap := s.heap.push (lO #[] 0) }
 unfold Builtin.List.listExtendWith
 refine wpAny_bind (wpAny_typeOf (IsRevT.typeIs (s := { s with heap := s.heap.push (lO #[] 0) }) r1) ?_)
 have nsr : Builtin.List.listSameRef (.ref s.heap.objs.size) (.ref it) = false := by
   show (s.heap.objs.size == it) = false
   exact beq_eq_false_iff_ne.mpr (Nat.ne_of_gt hlt)
 rw [nsr]
 refine wp_f (by decide) ?_
 refine wpAny_bind (iter_rev (s := { s with heap := s.heap.push (lO #[] 0) }) r1 ?_)
 refine wpAny_bind (wpAny_holding (hint_rev (s := { s with heap := s.heap.push (lO #[] 0) }) hf t1 r1 fun tk => ?_))
 have W := (walks (prog := prog) (w := w) (A := A.in1) (by simpa using hh) it p hne0 items (by omega)).toS
 have nLf : s.heap.objs.size ∉ [it, p] := fun z => by
   rcases List.mem_cons.mp z with z | z
   · exact Nat.ne_of_gt hlt z
   · exact Nat.ne_of_gt hltp (List.mem_singleton.mp z)
 have sh4 : ∀ (h4 : Heap), (∀ b u, b ≠ s.heap.objs.size → (s.heap.push (lO #[] 0)).get? b = some u → h4.get? b = some u) → 0 ≤ items.size ∧ IsRevT h4 it p ((items.size : Int) - 1 - ((0 : Nat) : Int)) ∧ IsTup h4 p items := fun h4 kk => ⟨Nat.zero_le _, by
   have : (items.size : Int) - 1 - ((0 : Nat) : Int) = (items.size : Int) - 1 := by omega
   rw [this]
   exact r1.at fun o e => kk it o (Nat.ne_of_lt hlt) e, tup_at t1 fun o e => kk p o (Nat.ne_of_lt hltp) e⟩
 have last : ∀ (h4 : Heap) (s' : Shared) (acc : Array Value) (c : Nat), (∀ b u, b ≠ s.heap.objs.size → (s.heap.push (lO #[] 0)).get? b = some u → h4.get? b = some u) → Moved [s.heap.objs.size, it] (fun a b => b = a) { s with heap := h4, toks := tk } s' → s'.heap.get? s.heap.objs.size = some (lO acc c) → ItemsOf (fun i v => items[items.size - 1 - i]? = some v) acc items.size → Q acc.toList s' := fun h4 s' acc c kk mv eA hacc => by
   obtain ⟨h5, g5, d5, tk5, os5⟩ := s'
   obtain rfl : g5 = s.gens := mv.gens
   obtain rfl : d5 = s.drawn := mv.drawn
   obtain rfl : os5 = s.os := mv.os
   refine k h5 tk5 acc.toList (fun b o hb e => mv.heap b o (fun z => ?_) (kk b o (Nat.ne_of_lt (Heap.lt_size e)) (Heap.get?_push_of_some _ e))) (by have := hacc.1; simpa using this) fun i v e => hacc.2 i v (by simpa using e)
   have hbl := Heap.lt_size e
   rcases List.mem_cons.mp z with z | z
   · exact Nat.ne_of_lt hbl z
   · exact hb (List.mem_singleton.mp z)
 by_cases hz : items.size = 0
 · rw [hz]
   refine wp_f (by decide +kernel) ?_
   refine wpAny_pure ⟨plainId_quiet F.plain_extend_loop _, codeAny_extend_loopS W hf _ nLf _ items.size 0 { s with heap := s.heap.push (lO #[] 0), toks := tk } #[] 0 rfl (Nat.zero_le _) (sh4 _ fun b u _ e => e) eL (ItemsOf.nil _) fun s' acc c mv eA hacc => ?_⟩
   exact wpAny_bind (wpAny_load eA (wpAny_pure (last _ s' acc c (fun b u _ e => e) mv eA hacc)))
 · have hne : ((items.size : Int) != 0) = true := by
     rw [bne_iff_ne]
     omega
   rw [hne]
   refine wp_t (by decide +kernel) ?_
   refine wpAny_bind (wpAny_rule ?_)
   refine wpAny_bind ?_
   unfold Builtin.List.listTouch
   have h64 : (0 : Nat) ≤ sizeLine := Nat.zero_le _
   refine wpAny_bind (upd_at (s := { s with heap := s.heap.push (lO #[] 0), toks := tk }) (·.push Value.none) eL h64 (by simp) fun h3 c3 e3 b3 => ?_)
   refine upd_at (s := { s with heap := h3, toks := tk }) (·.pop) e3 (by rw [sizeLine_eq]; decide) (by simp) fun h4 c4 e4 b4 => ?_
   have keep : ∀ b o, b ≠ s.heap.objs.size → (s.heap.push (lO #[] 0)).get? b = some o → h4.get? b = some o := fun b o nb e => (b4.2 b nb).trans ((b3.2 b nb).trans e)
   refine wpAny_pure ⟨plainId_quiet F.plain_extend_loop _, codeAny_extend_loopS W hf _ nLf _ items.size 0 { s with heap := h4, toks := tk } #[] c4 rfl (Nat.zero_le _) (sh4 _ keep) e4 (ItemsOf.nil _) fun s' acc c mv eA hacc => ?_⟩
   exact wpAny_bind (wpAny_load eA (wpAny_pure (last _ s' acc c keep mv eA hacc)))
theorem code_tuple_rev {it p : Addr} {items : Array Value} {Q₁ : Value → Shared → Prop} (hh : A.handled = none) (hf : items.size ≤ sizeLine) (ht : IsTup s.heap p items) (hit : IsRevT s.heap it p ((items.size : Int) - 1))
   (h : ∀ (h' : Heap) (tk : Nat) (vs : List Value), (∀ b o, b ≠ it → s.heap.get? b = some o → h'.get? b = some o) → vs.length = items.size → (∀ (i : Nat) v, vs[i]? = some v → items[items.size - 1 - i]? = some v) → Q₁ (.ref h'.objs.size) { s with heap := h'.push { cls := .type "tuple", data := .seq vs.toArray }, toks := tk }) :
   codeAny (model prog w) A (.call (.builtin "tuple.__new__") ⟨[.type "tuple", .ref it], []⟩) (wants Q₁ E) s := by
 refine codeAny_of_tree ?_
 show wpAny _ A.in1 (do checkBuiltinCall "tuple.__new__" ⟨[.type "tuple", .ref it], []⟩; again (.builtin "tuple.__new__" ⟨[.type "tuple", .ref it], []⟩)) _ _ s
 refine wpAny_bind (wpAny_of_eq (F.newCall_tuple_1 _) (wpAny_pure ⟨plainId_quiet F.plain_tuple_new _, codeAny_builtin F.entry_tuple_new ?_⟩))
 rw [Around.under_plainId F.plain_tuple_new _]
 have hsub := sub_tuple_self
 have hinit := init_tuple_lookup
 have hmh := madeHere_tuple
 have hTI := hit.typeIs
 wp_walk using wpAny_typeOf hTI, collect_rev (by simpa using hh) hf ht hit
 intro h' tk vs k1 k2 k3
 show wpAny _ _ (Builtin.Tuple.tupleExact vs.toArray >>= fun v => ret v) _ _ _
 unfold Builtin.Tuple.tupleExact
 refine wpAny_bind (wpAny_newObj_type ?_ (by show vs.toArray.size ≤ sizeLine; rw [List.size_toArray, k2]; exact hf))
 exact wpAny_pure (h h' tk vs k1 k2 k3)
theorem call_tuple_rev {it p : Addr} {items : Array Value} {Q : Value → Shared → Prop} (hh : A.handled = none) (hf : items.size ≤ sizeLine) (ht : IsTup s.heap p items) (hit : IsRevT s.heap it p ((items.size : Int) - 1))
   (h : ∀ (h' : Heap) (tk : Nat) (vs : List Value), (∀ b o, b ≠ it → s.heap.get? b = some o → h'.get? b = some o) → vs.length = items.size → (∀ (i : Nat) v, vs[i]? = some v → items[items.size - 1 - i]? = some v) → Q (.ref h'.objs.size) { s with heap := h'.push { cls := .type "tuple", data := .seq vs.toArray }, toks := tk }) :
   wpAny (model prog w) A (call (.type "tuple") [.ref it]) Q E s := by
 refine callType_codes (Q₁ := fun obj s₁ => s₁.TypeIs obj "tuple" ∧ Q obj s₁) F.called_tuple (F.typeCall_tuple_1 _) F.entry_object_init
   (code_tuple_rev (by simpa using hh) hf ht hit fun h' tk vs k1 k2 k3 => ⟨⟨_, Heap.get?_push_size _ rfl, rfl⟩, h h' tk vs k1 k2 k3⟩) fun obj s₁ h₁ => ?_
 exact ⟨h₁.1, F.args_object_init_2 obj _, object_init_meets F.called_tuple.init.lookup F.called_tuple.made (by decide) prog w A.in1 _ s₁ ⟨h₁.1, rfl, h₁.2⟩⟩
end
end RVT
namespace L3
open PySem PySem.Spec
open PyProof.Rows hiding St
open L2
def tTR (K : PySem.W.Frag) (te : TE) : TE := fun σ H Q => te σ H fun v H1 => ∃ a xs, v = .ref a ∧ SqT K H1 a xs ∧ ∀ p, H1 p = none → Q (.ref p) (upd H1 p (.tup xs.reverse))
theorem pe_tuprev {X : Cx} {e : Expr} {te : TE} {p1 p2 p3 p4 : Pos} (calm : X.A.handled = none) (gl : Gl X "tuple") (ml : X.mg "tuple" = none) (gr : Gl X "reversed") (mr : X.mg "reversed" = none) (he : PE X e te)
   (s1 : starEach [.Call (.Name "reversed" p2) [e] [] p3] X.env = (false, eval (.Call (.Name "reversed" p2) [e] [] p3) X.env) :: starEach [] X.env := by rfl) (s2 : starEach [e] X.env = (false, eval e X.env) :: starEach [] X.env := by rfl) :
   PE X (.Call (.Name "tuple" p1) [.Call (.Name "reversed" p2) [e] [] p3] [] p4) (tTR X.K te) := by
 intro pins s σ H Q I h
 have sz := sizeLine_eq
 refine wpAny_Call_Name_kw (ld_blt I gl ml (u := .type "tuple") rfl ?_)
 refine PyProof.Rows.callWith_type1 ?_ s1
 rw [s1]
 show wpAny _ _ (spliced ((false, eval (.Call (.Name "reversed" p2) [e] [] p3) X.env) :: [])) _ _ s
 refine Calls.spliced_cons ?_
 refine wpAny_Call_Name_kw (ld_blt I gr mr (u := .type "reversed") rfl ?_)
 refine PyProof.Rows.callWith_type1 ?_ s2
 rw [s2]
 show wpAny _ _ (spliced ((false, eval e X.env) :: [])) _ _ s
 refine Calls.spliced_cons (thn (he pins s σ H _ I h) fun u s' ⟨y, H1, I1, r1, a, xs, ey, hq, q⟩ => ?_)
 subst ey
 cases r1
 refine Calls.spliced_nil ?_
 obtain ⟨its, rv, pl, hz⟩ := I1.tuple hq
 have hlen := rv.length
 refine RVT.call_rev (items := its.toArray) (by simp; omega) pl fun tk => ?_
 refine Calls.spliced_nil ?_
 have pl2 : IsTup (s'.heap.push (RVT.revT a ((its.toArray.size : Int) - 1))) a its.toArray := RVT.tup_at pl fun o e => Heap.get?_push_of_some _ e
 refine RVT.call_tuple_rev (s := { s' with heap := s'.heap.push (RVT.revT a ((its.toArray.size : Int) - 1)), toks := tk }) calm (by simp; omega) pl2 ⟨_, Heap.get?_push_size _ rfl, rfl, rfl⟩ fun h' tk' vs kp k2 k3 => ?_
 have ev : vs = its.reverse := by
   have k2 : vs.length = its.length := by simpa using k2
   refine List.ext_getElem? fun i => ?_
   by_cases hi : i < vs.length
   · have e1 : vs[i]? = some vs[i] := List.getElem?_eq_getElem hi
     have e2 := k3 i _ e1
     rw [e1, List.getElem?_reverse (by omega)]
     simp at e2
     exact e2.symm
   · rw [List.getElem?_eq_none (by omega), List.getElem?_eq_none (by simp; omega)]
 subst ev
 have kp2 : ∀ b o, s'.heap.get? b = some o → h'.get? b = some o := fun b o eb => kp b o (fun z => Nat.lt_irrefl _ (z ▸ Heap.lt_size eb)) (Heap.get?_push_of_some _ eb)
 have I2 : Inv X pins σ H1 { s' with heap := h', toks := tk' } := I1.kept (t' := tk') kp2
 have I3 : Inv X pins σ (upd H1 h'.objs.size (.tup xs.reverse)) { s' with heap := h'.push { cls := .type "tuple", data := .seq its.reverse.toArray }, toks := tk' } :=
   I2.laid (t' := tk') (fun b o e => Heap.get?_push_of_some _ e) (Nat.le_refl _) (show ObjOk X.prog X.w _ _ _ (.tup xs.reverse) from ⟨by rw [List.length_reverse]; exact hz, its.reverse, rv.reverse, IsTup.new _ _⟩)
 exact ⟨.ref h'.objs.size, _, I3, rfl, q _ (I2.hok.fresh (Nat.le_refl _))⟩
section
variable {K : PySem.W.Frag} {O : Ob}
def trvD (f : DE) : DE := fun ρ Q => f ρ fun r => ∃ ds, r.d = .tuple ds ∧ Q (.o (.tuple ds.reverse))
theorem ed_tuprev {t : TE} {f : DE} (h : ED K O t f) : ED K O (tTR K t) (trvD f) := fun σ H ρ Q Qd S hf k => by
 refine h σ H ρ _ _ S hf fun v H1 r s1 o1 ⟨ds, e, q⟩ => ?_
 have i1 := o1.is S.ok S.p
 rw [e] at i1
 cases i1 with
 | tuple ha hs =>
   refine ⟨_, _, rfl, ha, fun p hp => ?_⟩
   obtain ⟨a1, a2⟩ := out_tup (K := K) S.ok hp (isAll_rev hs)
   exact k _ _ _ (s1.trans a1) (Out.ahead S.ok S.p s1 a2) q
end
section
variable {ι κ : Type} {P : Program} {w : World} {K : PySem.W.Frag} {mg : Str → Option Value} {base : Heap} {k : Nat} {X : ι → Cx} {O : κ → Ob} {a : Expr} {fa : DE} {p1 p2 p3 p4 : Pos}
theorem e_tuprev (C : Ctx3 P w K mg base k X) (B : Blt mg) (ha : E3 K X O a fa) (gl : ∀ i, Gl (X i) "tuple" := by intro i; rfl) (gr : ∀ i, Gl (X i) "reversed" := by intro i; rfl)
   (s1 : ∀ i, starEach [.Call (.Name "reversed" p2) [a] [] p3] (X i).env = (false, eval (.Call (.Name "reversed" p2) [a] [] p3) (X i).env) :: starEach [] (X i).env := by intro i; rfl) (s2 : ∀ i, starEach [a] (X i).env = (false, eval a (X i).env) :: starEach [] (X i).env := by intro i; rfl) :
   E3 K X O (.Call (.Name "tuple" p1) [.Call (.Name "reversed" p2) [a] [] p3] [] p4) (trvD fa) :=
 let ⟨_, q, d⟩ := ha; ⟨tTR K _, fun i => by
   have h := pe_tuprev (p1 := p1) (p2 := p2) (p3 := p3) (p4 := p4) (C.room i).hd (gl i) (by rw [C.hmg]; exact B.tuple) (gr i) (by rw [C.hmg]; exact B.reversed) (q i) (s1 i) (s2 i)
   rw [C.hK] at h
   exact h, fun j => ed_tuprev (d j)⟩
end
end L3
namespace L50
open PySem PySem.Spec
open PyProof.Rows hiding St
open L2 L3 L6
local macro_rules | `(tactic| infer_instance) => `(tactic| first | refine ⟨_, _, rfl, rfl, ?_⟩ | refine ⟨_, eqI, ?_⟩ | refine ⟨_, neI, ?_⟩ | refine ⟨_, rfl, ?_⟩ | refine ⟨rfl, ?_⟩ | refine ⟨(by show _ ≤ sizeLine; rw [sizeLine_eq]; exact Nat.le_of_ble_eq_true rfl), ?_⟩ | refine ⟨_, _, rfl, ?_⟩ | refine ⟨_, _, _, rfl, ?_⟩ | refine iteT ?_ | refine iteF ?_ | refine Or.inl ⟨rfl, ?_⟩ | refine Or.inr ⟨rfl, ?_⟩ | refine ⟨_, eqS_t (by decide +kernel), ?_⟩ | refine ⟨_, eqS_f (by decide +kernel) (by decide +kernel), ?_⟩ | refine ⟨_, inS_t (by decide +kernel), ?_⟩ | refine ⟨_, inS_f (by decide +kernel), ?_⟩)
section
variable {P : Program} {w : World} {K : PySem.W.Frag} {mg : Str → Option Value} {base : Heap} {k : Nat}
abbrev sIsThere : Stmt := top 1
theorem scIsThere : FnScope ["number", "count"] ["number", "count"] (defScope sIsThere) := ⟨rfl, rfl, rfl, by decide +kernel, rfl, by decide +kernel, by decide +kernel⟩
theorem d_is_there (B : Blt mg) (T : Top3 K mg "is_there" sIsThere) : Def3 P w K mg base 1 "is_there" ["number", "count"] (spO K (fun _ => True) 2 thereF) := by
 refine mk_O T scIsThere (fun _ _ _ _ _ _ us hl => len2 hl fun _ _ => rfl) rfl fun f cdv A outer s H E O hφ C => ⟨_, (ss_one (s_ret (e_chM e_int (e_var 0) (e_var 1)))), fun ds Qr hn q => ?_⟩
 obtain ⟨i, n, rfl, q⟩ := q
 refine ⟨_, _, rfl, rfl, _, rfl, _, rfl, ?_⟩
 by_cases h : (0 : Int) ≤ i
 · rw [decide_eq_true h] at q ⊢
   exact iteT ⟨_, _, rfl, rfl, _, rfl, q⟩
 · rw [decide_eq_false h] at q ⊢
   exact iteF q
end
section
variable {P : Program} {w : World} {K : PySem.W.Frag} {mg : Str → Option Value} {base : Heap} {k : Nat}
abbrev sNamesIn : Stmt := top 3
theorem scNamesIn : FnScope ["body"] ["body"] (defScope sNamesIn) := ⟨rfl, rfl, rfl, by decide +kernel, rfl, by decide +kernel, by decide +kernel⟩
theorem d_names_in (B : Blt mg) (T : Top3 K mg "names_in" sNamesIn) : Def3 P w K mg base 1 "names_in" ["body"] (spO K (fun _ => True) 1 namesInF) := by
 refine mk_O T scNamesIn (fun _ _ _ _ _ _ us hl => len1 hl fun _ => rfl) rfl fun f cdv A outer s H E O hφ C => ⟨_, (ss_one (s_ret (e_comp 1 ["thing", "body"] C (fun _ => .of rfl (by kernel_rfl)) (i_tup C (e_var 0)) (g_name 0) (f_one (t_val (e_isI (T := "int") (C.comp _ _) B (e_var 0) B.int))) (e_var 0)))), fun ds Qr hn q => ?_⟩
 obtain ⟨b, rfl, hb, q⟩ := q
 have sz := sizeLine_eq
 (repeat infer_instance)
 refine comp_fil (α := GThg) (enc := encTh) (p := GThg.isN) (e := encTh) (fun t ht Pn Py hn hy => ?_) (by omega) ?_
 · cases t with
   | nm i =>
     (repeat infer_instance)
     exact hy rfl _ rfl
   | lt v =>
     (repeat infer_instance)
     exact hn rfl
 · exact q
end
section
variable {P : Program} {w : World} {K : PySem.W.Frag} {mg : Str → Option Value} {base : Heap} {k : Nat}
abbrev sIsPair : Stmt := top 4
theorem scIsPair : FnScope ["tree"] ["tree"] (defScope sIsPair) := ⟨rfl, rfl, rfl, by decide +kernel, rfl, by decide +kernel, by decide +kernel⟩
theorem d_is_pair (B : Blt mg) (T : Top3 K mg "is_pair" sIsPair) : Def3 P w K mg base 1 "is_pair" ["tree"] (spO K (fun _ => True) 1 isPairF) := by
 refine mk_O T scIsPair (fun _ _ _ _ _ _ us hl => len1 hl fun _ => rfl) rfl fun f cdv A outer s H E O hφ C => ⟨_, (ss_cons (s_if (t_w (w_or (t_not (t_val (e_isI (T := "tuple") C B (e_var 0) B.tuple))) (w_or1 (t_ne C (e_len C B (a_cons (e_var 0) a_nil)) e_int)))) (ss_one (s_ret e_bl)) ss_nil) (ss_one (s_ret (e_and (e_isI (T := "int") C B (e_idx C (e_var 0) e_int) B.int) (e_one (e_isI (T := "tuple") C B (e_idx C (e_var 0) e_int) B.tuple)))))), fun ds Qr hn q => ?_⟩
 obtain ⟨d, rfl, q⟩ := q
 rcases q with ⟨a, ks, rfl, q⟩ | ⟨o, q⟩
 · (repeat infer_instance)
   exact q
 · cases o <;> ((repeat infer_instance); exact q)
end
section
variable {P : Program} {w : World} {K : PySem.W.Frag} {mg : Str → Option Value} {base : Heap} {k : Nat}
abbrev sIsOfName : Stmt := top 5
theorem scIsOfName : FnScope ["grammar", "name", "tree"] ["grammar", "name", "tree"] (defScope sIsOfName) := ⟨rfl, rfl, rfl, by decide +kernel, rfl, by decide +kernel, by decide +kernel⟩
theorem d_is_of_name (B : Blt mg) (d_is_there : Def3 P w K mg base 1 "is_there" ["number", "count"] (spO K (fun _ => True) 2 thereF)) (d_is_pair : Def3 P w K mg base 1 "is_pair" ["tree"] (spO K (fun _ => True) 1 isPairF)) (T : Top3 K mg "is_of_name" sIsOfName) : Def3 P w K mg base 2 "is_of_name" ["grammar", "name", "tree"] (spO K (fun _ => True) 3 ofNameF) := by
 refine mk_O T scIsOfName (fun _ _ _ _ _ _ us hl => len3 hl fun _ _ _ => rfl) rfl fun f cdv A outer s H E O hφ C => ⟨_, (ss_one (s_ret (e_and (e_call C d_is_pair (fun _ => trivial) (a_cons (e_var 2) a_nil)) (e_and (e_call C d_is_there (fun _ => trivial) (a_cons (e_idx C (e_var 2) e_int) (a_cons (e_len C B (a_cons (e_idx C (e_var 0) e_int) a_nil)) a_nil))) (e_one (e_eq C (e_idx C (e_idx C (e_idx C (e_var 0) e_int) (e_idx C (e_var 2) e_int)) e_int) (e_var 1))))))), fun ds Qr hn q => ?_⟩
 obtain ⟨g, x, d, rfl, ok, q⟩ := q
 have many := ok.many
 rcases q with ⟨a, ks, rfl, q⟩ | ⟨o, q⟩
 · (repeat infer_instance)
   refine .inl ⟨a, ks, rfl, ?_⟩
   (repeat infer_instance)
   rw [List.length_map, show (decide (0 ≤ a) && decide (a < ((g.rs.length : Nat) : Int))) = thB a g.rs.length from rfl]
   cases h : thB a g.rs.length with
   | false =>
     rw [h] at q
     (repeat infer_instance)
     exact q
   | true =>
     rw [h] at q
     (repeat infer_instance)
     refine ⟨_, idx_g h, ?_⟩
     (repeat infer_instance)
     exact q
 · (repeat infer_instance)
   refine .inr ⟨o, ?_⟩
   (repeat infer_instance)
   exact q
end
section
variable {P : Program} {w : World} {K : PySem.W.Frag} {mg : Str → Option Value} {base : Heap} {k : Nat}
abbrev sIsTree : Stmt := top 6
theorem scIsTree : FnScope ["grammar", "name", "tree", "waiting", "wanted", "rule", "kids", "names"] ["grammar", "name", "tree"] (defScope sIsTree) := ⟨rfl, rfl, rfl, by decide +kernel, rfl, by decide +kernel, by decide +kernel⟩
theorem d_is_tree (B : Blt mg) (d_names_in : Def3 P w K mg base 1 "names_in" ["body"] (spO K (fun _ => True) 1 namesInF)) (d_is_of_name : Def3 P w K mg base 2 "is_of_name" ["grammar", "name", "tree"] (spO K (fun _ => True) 3 ofNameF)) (T : Top3 K mg "is_tree" sIsTree) : Def3 P w K mg base 3 "is_tree" ["grammar", "name", "tree"] (spO K (fun _ => True) 3 isTreeF) := by
 refine mk_O T scIsTree (fun _ _ _ _ _ _ us hl => len3 hl fun _ _ _ => rfl) rfl fun f cdv A outer s H E O hφ C => ⟨_, (ss_cons (s_set 3 (e_lst (a_cons (e_tup (a_cons (e_var 1) (a_cons (e_var 2) a_nil))) a_nil))) (ss_cons (s_while C (t_tru C (e_var 3)) (ss_cons (s_setPop 4 3 C) (ss_cons (s_if (t_not (t_val (e_call C d_is_of_name (fun _ => trivial) (a_cons (e_var 0) (a_cons (e_idx C (e_var 4) e_int) (a_cons (e_idx C (e_var 4) e_int) a_nil)))))) (ss_one (s_ret e_bl)) ss_nil) (ss_cons (s_set 5 (e_idx C (e_idx C (e_var 4) e_int) e_int)) (ss_cons (s_set 6 (e_idx C (e_idx C (e_var 4) e_int) e_int)) (ss_cons (s_set 7 (e_call C d_names_in (fun _ => trivial) (a_cons (e_idx C (e_idx C (e_idx C (e_var 0) e_int) (e_var 5)) e_int) a_nil))) (ss_cons (s_if (t_ne C (e_len C B (a_cons (e_var 6) a_nil)) (e_len C B (a_cons (e_var 7) a_nil))) (ss_one (s_ret e_bl)) ss_nil) (ss_one (s_ext 3 C (e_listzipL C B (a_cons (e_var 7) (a_cons (e_var 6) a_nil)))))))))))) (ss_one (s_ret e_bl)))), fun ds Qr hn q => ?_⟩
 obtain ⟨g, x, d, n, rfl, ok, n10, lk, q⟩ := q
 have sz := sizeLine_eq
 have many := ok.many
 have c0 := cntT_le lk
 have c1 : 4 ^ n ≤ 4 ^ 10 := Nat.pow_le_pow_right (by decide) n10
 rcases n with _ | n
 · exact lk.elim
 (repeat infer_instance)
 refine ⟨by show (flat (.tuple [.int x, d]) && true) = true; show ((true && (flat d && true)) && true) = true; rw [lk.flat]; rfl, ?_⟩
 refine ⟨fun k ρ => ∃ (ws : List (Int × PyData)) (x4 x5 x6 x7 : Option DV), (∀ p ∈ ws, Lk (n + 1) p.2) ∧ k = tot2 (n + 1) ws ∧ k ≤ 4 ^ 10 ∧ Qr (.o (.bool (ws.all fun p => g.isT (n + 1) p.1 p.2))) ∧ ρ = [some (.im (encGz g)), some (.im (.int x)), some (.im d), some (.own (ws.map pD)), x4, x5, x6, x7], ⟨_, [(x, d)], none, none, none, none, fun p hp => ?_, rfl, ?_, ?_, rfl⟩, ?_⟩
 · rw [List.mem_singleton.mp hp]; exact lk
 · show cntT (n + 1) d + 0 ≤ _; omega
 · rw [List.all_cons, List.all_nil, Bool.and_true]; exact q
 · rintro k ρ ⟨ws, x4, x5, x6, x7, hw, rfl, hk, hq, rfl⟩
   (repeat infer_instance)
   rcases List.eq_nil_or_concat ws with rfl | ⟨ws, p, rfl⟩
   · (repeat infer_instance)
     exact hq
   · obtain ⟨y, t⟩ := p
     rw [List.concat_eq_append] at hw hk hq ⊢
     rw [if_pos (by simp)]
     have lt := hw (y, t) (by simp)
     have tl := tot2_len (fun p hp => hw p (List.mem_append_left _ hp) : ∀ p ∈ ws, Lk (n + 1) p.2)
     have te : tot2 (n + 1) (ws ++ [(y, t)]) = tot2 (n + 1) ws + cntT (n + 1) t := tot2_app _ _ _
     rw [te] at hk ⊢
     rw [List.all_append, List.all_cons, List.all_nil, Bool.and_true] at hq
     refine ⟨ws.map pD, pD (y, t), by rw [List.map_append]; rfl, by show (true && (flat t && true)) = true; rw [lt.flat]; rfl, ?_⟩
     (repeat infer_instance)
     refine ⟨ok, ?_⟩
     rcases lt with ⟨a, ks, rfl, l4, hks⟩ | ⟨o, _⟩
     · refine .inl ⟨a, ks, rfl, ?_⟩
       rw [isT_node, ← Bool.and_assoc (thB _ _)] at hq
       cases hb : (thB a g.rs.length && decide ((g.at_ a).n = y)) with
       | false =>
         rw [hb, Bool.false_and, Bool.and_false] at hq
         (repeat infer_instance)
         exact hq
       | true =>
         rw [hb, Bool.true_and] at hq
         have ha : thB a g.rs.length = true := (Bool.and_eq_true _ _ ▸ hb).1
         have gm := (at_get_g ha).2.1
         have be := (ok.each _ gm).2.1
         have fk : flats ks = true := flats_all fun k m => (hks k m).flat
         (repeat infer_instance)
         refine ⟨fk, ?_⟩
         (repeat infer_instance)
         refine ⟨_, idx_g ha, ?_⟩
         (repeat infer_instance)
         refine ⟨by omega, ?_⟩
         rw [nms_enc]
         refine ⟨flats_map (fun _ => rfl) _, ?_⟩
         (repeat infer_instance)
         rw [List.length_map]
         by_cases hl : (nms (g.at_ a).b).length = ks.length
         · rw [decide_eq_true hl, Bool.true_and] at hq
           rw [decide_eq_true (show ((ks.length : Nat) : Int) = ((nms (g.at_ a).b).length : Nat) by omega)]
           have lz := tot2_zip (n + 1) (nms (g.at_ a).b) ks
           have cz : (ks.map (cntT (n + 1))).sum = (ks.map (cntT n)).sum := sumT_congr fun k m => cntT_up (hks k m)
           rw [cntT_node] at hk
           (repeat infer_instance)
           refine ⟨flats_map (fun _ => rfl) _, fk, ?_⟩
           rw [zip_pD]
           have zm : ∀ p ∈ (nms (g.at_ a).b).zip ks, Lk (n + 1) p.2 := fun p hp => (hks p.2 (List.of_mem_zip hp).2).up
           have zl := tot2_len zm
           have em : (ws ++ (nms (g.at_ a).b).zip ks).map pD = ws.map pD ++ ((nms (g.at_ a).b).zip ks).map pD := List.map_append
           refine ⟨_, rfl, flats_all fun z hz => ?_, by rw [List.length_map, List.length_map]; omega, ?_⟩
           · obtain ⟨p, hp, rfl⟩ := List.mem_map.mp hz
             show (true && (flat p.2 && true)) = true
             rw [(zm p hp).flat]; rfl
           · refine ⟨tot2 (n + 1) (ws ++ (nms (g.at_ a).b).zip ks), ?_, ws ++ (nms (g.at_ a).b).zip ks, _, _, _, _, fun p hp => ?_, rfl, ?_, ?_, by rw [em]; rfl⟩
             · rw [tot2_app, cntT_node]; omega
             · rcases List.mem_append.mp hp with hp | hp
               · exact hw p (List.mem_append_left _ hp)
               · exact zm p hp
             · rw [tot2_app]; omega
             · rw [List.all_append, all_zip (f := fun p => g.isT (n + 1) p.1 p.2) (g := fun p => g.isT n p.1 p.2) (fun y k hm => isT_up (hks k hm))]
               exact hq
         · rw [decide_eq_false (show ¬ ((ks.length : Nat) : Int) = ((nms (g.at_ a).b).length : Nat) by omega)]
           rw [decide_eq_false hl, Bool.false_and, Bool.and_false] at hq
           (repeat infer_instance)
           exact hq
     · refine .inr ⟨o, ?_⟩
       rw [isT_odd o, Bool.and_false] at hq
       (repeat infer_instance)
       exact hq
end
section
variable {P : Program} {w : World} {K : PySem.W.Frag} {mg : Str → Option Value} {base : Heap} {k : Nat}
abbrev sPartsOf : Stmt := top 7
theorem scPartsOf : FnScope ["grammar", "tree", "kids", "parts", "thing"] ["grammar", "tree"] (defScope sPartsOf) := ⟨rfl, rfl, rfl, by decide +kernel, rfl, by decide +kernel, by decide +kernel⟩
theorem d_parts_of (B : Blt mg) (T : Top3 K mg "parts_of" sPartsOf) : Def3 P w K mg base 1 "parts_of" ["grammar", "tree"] (spO K (fun _ => True) 2 partsTF) := by
 refine mk_O T scPartsOf (fun _ _ _ _ _ _ us hl => len2 hl fun _ _ => rfl) rfl fun f cdv A outer s H E O hφ C => ⟨_, (ss_cons (s_set 2 (e_listc C B (a_cons (e_idx C (e_var 1) e_int) a_nil))) (ss_cons (s_set 3 (e_lst a_nil)) (ss_cons (s_for C (j_new (i_tup C (e_idx C (e_idx C (e_idx C (e_var 0) e_int) (e_idx C (e_var 1) e_int)) e_int))) (g_name (h := 1000) 4) (ss_one (s_appPop 3 2 C (t_val (e_isI (T := "int") C B (e_var 4) B.int)) (e_var 4)))) (ss_one (s_retO 3))))), fun ds Qr hn q => ?_⟩
 obtain ⟨g, a, ks0, rfl, ok, ha, hl, fk, q⟩ := q
 have sz := sizeLine_eq
 have be := (ok.each _ (at_get_g ha).2.1).2.1
 have go : ∀ (b : List GThg) (ks : List PyData) (ps : List Pt) (x4 : Option DV) (Dd : DEnds), (nms b).length = ks.length → (∀ k ∈ ks, flat k = true) → ps.length + b.length ≤ 3 → (∀ x4 : Option DV, Dd.nx [some (.im (encGz g)), some (.im (nodeD a ks0)), some (.own []), some (.own ((ps ++ partsB b ks).map encPt)), x4]) → forGo (gN 4) (appPop 3 2 (bD (isID "int" (vD 4))) (vD 4)) Dd (b.map encTh) [some (.im (encGz g)), some (.im (nodeD a ks0)), some (.own ks), some (.own (ps.map encPt)), x4] := by
   intro b
   induction b with
   | nil =>
     intro ks ps x4 Dd hl fk hp hD
     have e : ks = [] := List.eq_nil_of_length_eq_zero hl.symm
     subst e
     have := hD x4
     rw [partsB, List.append_nil] at this
     exact this
   | cons t b ih =>
     intro ks ps x4 Dd hl fk hp hD
     rw [List.length_cons] at hp
     cases t with
     | lt w =>
       refine ⟨rfl, ?_⟩
       (repeat infer_instance)
       refine ⟨by rw [List.length_map]; omega, by decide, ?_⟩
       (repeat infer_instance)
       have := ih ks (ps ++ [.inl w]) (some (.im (.str (tx w)))) Dd hl fk (by rw [List.length_append, List.length_singleton]; omega) (fun x4 => by
         have z := hD x4
         rw [partsB] at z
         rw [List.append_assoc]
         exact z)
       rw [List.map_append] at this
       exact this
     | nm i =>
       match ks, hl, fk, hD with
       | [], hl, _, _ => exact absurd hl (by simp [nms, GThg.isN])
       | k :: ks, hl, fk, hD =>
         refine ⟨rfl, ?_⟩
         (repeat infer_instance)
         refine ⟨by rw [List.length_map]; omega, by decide, ?_⟩
         (repeat infer_instance)
         refine ⟨fk k (by simp), ?_⟩
         have := ih ks (ps ++ [.inr k]) (some (.im (.int i))) Dd (by have : (nms b).length + 1 = ks.length + 1 := hl; omega) (fun x hx => fk x (List.mem_cons_of_mem _ hx)) (by rw [List.length_append, List.length_singleton]; omega) (fun x4 => by
           have z := hD x4
           rw [partsB] at z
           rw [List.append_assoc]
           exact z)
         rw [List.map_append] at this
         exact this
 (repeat infer_instance)
 refine ⟨flats_all fk, ?_⟩
 (repeat infer_instance)
 refine ⟨_, idx_g ha, ?_⟩
 (repeat infer_instance)
 exact go (g.at_ a).b ks0 [] none _ hl fk (by rw [List.length_nil]; omega) fun x4 => ⟨_, rfl, q⟩
end
section
variable {P : Program} {w : World} {K : PySem.W.Frag} {mg : Str → Option Value} {base : Heap} {k : Nat}
abbrev sWordOf : Stmt := top 8
theorem scWordOf : FnScope ["grammar", "tree", "letters", "waiting", "part"] ["grammar", "tree"] (defScope sWordOf) := ⟨rfl, rfl, rfl, by decide +kernel, rfl, by decide +kernel, by decide +kernel⟩
theorem d_word_of (B : Blt mg) (d_parts_of : Def3 P w K mg base 1 "parts_of" ["grammar", "tree"] (spO K (fun _ => True) 2 partsTF)) (T : Top3 K mg "word_of" sWordOf) : Def3 P w K mg base 2 "word_of" ["grammar", "tree"] (spO K (fun _ => True) 2 wordTF) := by
 refine mk_O T scWordOf (fun _ _ _ _ _ _ us hl => len2 hl fun _ _ => rfl) rfl fun f cdv A outer s H E O hφ C => ⟨_, (ss_cons (s_set 2 (e_lst a_nil)) (ss_cons (s_set 3 (e_lst (a_cons (e_var 1) a_nil))) (ss_cons (s_while C (t_tru C (e_var 3)) (ss_cons (s_setPop 4 3 C) (ss_one (s_if (t_val (e_isI (T := "str") C B (e_var 4) B.str)) (ss_one (s_app 2 C (e_var 4))) (ss_one (s_ext 3 C (e_listrev C B (e_call C d_parts_of (fun _ => trivial) (a_cons (e_var 0) (a_cons (e_var 4) a_nil)))))))))) (ss_one (s_ret (e_join C e_str (e_var 2))))))), fun ds Qr hn q => ?_⟩
 obtain ⟨g, d, n, rfl, ok, n10, gd, q⟩ := q
 have sz := sizeLine_eq
 have lk := gd.lk
 have c0 := cntT_le lk
 have c1 : 4 ^ n ≤ 4 ^ 10 := Nat.pow_le_pow_right (by decide) n10
 rcases n with _ | n
 · exact gd.elim
 (repeat infer_instance)
 refine ⟨by show (flat d && true) = true; rw [lk.flat]; rfl, ?_⟩
 refine ⟨fun k ρ => ∃ (ws : List Pt) (L : List (List Nat)) (x4 : Option DV), (∀ p ∈ ws, PtOk g (n + 1) p) ∧ k = tot3 g (n + 1) ws ∧ L.length + k ≤ 4 * 4 ^ 10 ∧ L.flatten.length = L.length ∧ L.flatten ++ ws.reverse.flatMap (g.wordP (n + 1)) = g.wordT (n + 1) d ∧ ρ = [some (.im (encGz g)), some (.im d), some (.own (L.map fun v => .str (tx v))), some (.own (ws.map encPt)), x4], ⟨_, [.inr d], [], none, fun p hp => ?_, rfl, ?_, rfl, ?_, rfl⟩, ?_⟩
 · rw [List.mem_singleton.mp hp]; exact gd
 · show 0 + (4 * cntT (n + 1) d + 0) ≤ _; omega
 · show [] ++ (g.wordT (n + 1) d ++ []) = _; simp
 · rintro k ρ ⟨ws, L, x4, hw, rfl, hk, hL, he, rfl⟩
   (repeat infer_instance)
   rcases List.eq_nil_or_concat ws with rfl | ⟨ws, t, rfl⟩
   · (repeat infer_instance)
     obtain ⟨ys, e1, e2, e3⟩ := join_yt L (by omega)
     refine ⟨ys, e1, e2, ?_⟩
     have he : L.flatten ++ [] = g.wordT (n + 1) d := he
     rw [List.append_nil] at he
     rw [e3, he]
     exact q
   · rw [List.concat_eq_append] at hw hk he ⊢
     rw [if_pos (by simp)]
     have gt := hw t (by simp)
     have tl := tot3_len (fun p hp => hw p (List.mem_append_left _ hp) : ∀ p ∈ ws, PtOk g (n + 1) p)
     have te : tot3 g (n + 1) (ws ++ [t]) = tot3 g (n + 1) ws + cost g (n + 1) t := tot3_app _ _ _ _
     rw [te] at hk ⊢
     rw [List.reverse_append, List.reverse_singleton, List.singleton_append, List.flatMap_cons] at he
     refine ⟨ws.map encPt, encPt t, by rw [List.map_append]; rfl, flat_pt gt, ?_⟩
     cases t with
     | inl w =>
       obtain ⟨c, hc, rfl⟩ := gt
       (repeat infer_instance)
       refine ⟨by rw [List.length_map]; omega, ?_⟩
       have em : (L ++ [[c]]).map (fun v => PyData.str (tx v)) = L.map (fun v => PyData.str (tx v)) ++ [.str (tx [c])] := List.map_append
       refine ⟨tot3 g (n + 1) ws, ?_, ws, L ++ [[c]], _, fun p hp => hw p (List.mem_append_left _ hp), rfl, ?_, ?_, ?_, by rw [em]; rfl⟩
       · show _ < _ + 1; omega
       · have : L.length + (tot3 g (n + 1) ws + 1) ≤ 4 * 4 ^ 10 := hk
         rw [List.length_append, List.length_singleton]; omega
       · rw [List.flatten_append, List.length_append, List.length_append, hL]; rfl
       · rw [List.flatten_append, List.append_assoc]; exact he
     | inr t =>
       obtain ⟨a, ks, rfl, l3, ha, hl, hks⟩ := (show Gd g (n + 1) t from gt)
       have cz : (ks.map (cntT (n + 1))).sum = (ks.map (cntT n)).sum := sumT_congr fun k m => cntT_up (hks k m).lk
       have be := (ok.each _ (at_get_g ha).2.1).2.1
       have cp := cost_parts g (n + 1) (g.at_ a).b ks
       have pk := parts_ok ok ha (fun k m => (hks k m).up)
       have pl := tot3_len pk
       have ce : cost g (n + 1) (.inr (nodeD a ks)) = 4 * (1 + (ks.map (cntT n)).sum) := rfl
       have we : (partsB (g.at_ a).b ks).flatMap (g.wordP (n + 1)) = g.wordT (n + 1) (nodeD a ks) := by
         rw [word_parts, wordT_node, List.map_congr_left fun k m => wordT_up (hks k m)]
       have tp : tot3 g (n + 1) (partsB (g.at_ a).b ks) ≤ (g.at_ a).b.length + 4 * (ks.map (cntT (n + 1))).sum := cp
       rw [ce] at hk ⊢
       (repeat infer_instance)
       refine ⟨ok, ha, hl, fun k m => (hks k m).lk.flat, _, rfl, _, rfl, ?_, ?_, ?_⟩
       · refine flats_all fun z hz => ?_
         obtain ⟨p, hp, rfl⟩ := List.mem_map.mp (List.mem_reverse.mp hz)
         exact flat_pt (pk p hp)
       · rw [List.length_map, List.length_reverse, List.length_map]; omega
       · have em : (ws ++ (partsB (g.at_ a).b ks).reverse).map encPt = ws.map encPt ++ ((partsB (g.at_ a).b ks).map encPt).reverse := by rw [List.map_append, List.map_reverse]
         refine ⟨tot3 g (n + 1) (ws ++ (partsB (g.at_ a).b ks).reverse), ?_, ws ++ (partsB (g.at_ a).b ks).reverse, L, _, fun p hp => ?_, rfl, ?_, hL, ?_, by rw [em]; rfl⟩
         · rw [tot3_app, tot3_rev]; omega
         · rcases List.mem_append.mp hp with hp | hp
           · exact hw p (List.mem_append_left _ hp)
           · exact pk p (List.mem_reverse.mp hp)
         · rw [tot3_app, tot3_rev]; omega
         · rw [List.reverse_append, List.reverse_reverse, List.flatMap_append, we]; exact he
end
section
variable {P : Program} {w : World} {K : PySem.W.Frag} {mg : Str → Option Value} {base : Heap} {k : Nat}
abbrev sSizeOf : Stmt := top 9
theorem scSizeOf : FnScope ["tree", "size", "waiting", "last"] ["tree"] (defScope sSizeOf) := ⟨rfl, rfl, rfl, by decide +kernel, rfl, by decide +kernel, by decide +kernel⟩
theorem d_size_of (B : Blt mg) (T : Top3 K mg "size_of" sSizeOf) : Def3 P w K mg base 1 "size_of" ["tree"] (spO K (fun _ => True) 1 sizeOfF) := by
 refine mk_O T scSizeOf (fun _ _ _ _ _ _ us hl => len1 hl fun _ => rfl) rfl fun f cdv A outer s H E O hφ C => ⟨_, (ss_cons (s_set 1 e_int) (ss_cons (s_set 2 (e_lst (a_cons (e_var 0) a_nil))) (ss_cons (s_while C (t_tru C (e_var 2)) (ss_cons (s_setPop 3 2 C) (ss_cons (s_aug 1 e_int) (ss_one (s_extT 2 C (e_idx C (e_var 3) e_int)))))) (ss_one (s_ret (e_var 1)))))), fun ds Qr hn q => ?_⟩
 obtain ⟨g, d, n, rfl, n10, gd, q⟩ := q
 have sz := sizeLine_eq
 have lk := gd.lk
 have c0 := cntT_le lk
 have c1 : 4 ^ n ≤ 4 ^ 10 := Nat.pow_le_pow_right (by decide) n10
 rcases n with _ | n
 · exact gd.elim
 (repeat infer_instance)
 refine ⟨by show (flat d && true) = true; rw [lk.flat]; rfl, ?_⟩
 refine ⟨fun k ρ => ∃ (ws : List PyData) (s : Nat) (x3 : Option DV), (∀ p ∈ ws, Gd g (n + 1) p) ∧ k = tot1 (n + 1) ws ∧ s + k = cntT (n + 1) d ∧ ρ = [some (.im d), some (.im (.int (s : Nat))), some (.own ws), x3], ⟨_, [d], 0, none, fun p hp => ?_, rfl, ?_, rfl⟩, ?_⟩
 · rw [List.mem_singleton.mp hp]; exact gd
 · show 0 + (cntT (n + 1) d + 0) = _; omega
 · rintro k ρ ⟨ws, s, x3, hw, rfl, hk, rfl⟩
   (repeat infer_instance)
   rcases List.eq_nil_or_concat ws with rfl | ⟨ws, t, rfl⟩
   · (repeat infer_instance)
     have : s = cntT (n + 1) d := hk
     rw [this]
     exact q
   · rw [List.concat_eq_append] at hw hk ⊢
     rw [if_pos (by simp)]
     have gt := hw t (by simp)
     have tl := tot1_len (fun p hp => (hw p (List.mem_append_left _ hp)).lk : ∀ p ∈ ws, Lk (n + 1) p)
     have te : tot1 (n + 1) (ws ++ [t]) = tot1 (n + 1) ws + cntT (n + 1) t := tot1_app _ _ _
     rw [te] at hk ⊢
     refine ⟨ws, t, rfl, gt.lk.flat, ?_⟩
     obtain ⟨a, ks, rfl, l3, ha, hl, hks⟩ := gt
     have cz : tot1 (n + 1) ks = (ks.map (cntT n)).sum := sumT_congr fun k m => cntT_up (hks k m).lk
     have kl := tot1_len (fun p hp => (hks p hp).up.lk : ∀ p ∈ ks, Lk (n + 1) p)
     rw [cntT_node] at hk ⊢
     (repeat infer_instance)
     refine ⟨flats_all fun k m => (hks k m).lk.flat, by omega, tot1 (n + 1) (ws ++ ks), ?_, ws ++ ks, s + 1, _, fun p hp => ?_, rfl, ?_, rfl⟩
     · rw [tot1_app]; omega
     · rcases List.mem_append.mp hp with hp | hp
       · exact hw p (List.mem_append_left _ hp)
       · exact (hks p hp).up
     · rw [tot1_app]; omega
end
section
variable {P : Program} {w : World} {K : PySem.W.Frag} {mg : Str → Option Value} {base : Heap} {k : Nat}
abbrev sWholeL : Stmt := top 13
theorem scWholeL : FnScope ["_law_found"] ["_law_found"] (defScope sWholeL) := ⟨rfl, rfl, rfl, by decide +kernel, rfl, by decide +kernel, by decide +kernel⟩
theorem d_law_whole (B : Blt mg) (T : Top3 K mg "_law_whole" sWholeL) : Def3 P w K mg base 1 "_law_whole" ["_law_found"] (spO K (fun _ => True) 1 wholeTF) := by
 refine mk_O T scWholeL (fun _ _ _ _ _ _ us hl => len1 hl fun _ => rfl) rfl fun f cdv A outer s H E O hφ C => ⟨_, (ss_one (s_ret (e_and (e_isI (T := "int") C B (e_var 0) B.int) (e_one (e_not (e_isI (T := "bool") C B (e_var 0) B.bool)))))), fun ds Qr hn q => ?_⟩
 obtain ⟨d, rfl, q⟩ := q
 rcases q with ⟨i, rfl, q⟩ | ⟨x, rfl, q⟩
 · (repeat infer_instance)
   exact q
 · (repeat infer_instance)
   exact q
end
theorem fil_snoc (bs : List GThg) (t : GThg) : ((bs ++ [t]).filter GThg.isN).length = (bs.filter GThg.isN).length + (if t.isN = true then 1 else 0) := by
 rw [List.filter_append, List.length_append]
 cases t <;> rfl
section
variable {P : Program} {w : World} {K : PySem.W.Frag} {mg : Str → Option Value} {base : Heap} {k : Nat}
abbrev sGrammarL : Stmt := top 15
theorem scGrammarL : FnScope ["_law_deal_here", "_law_letters_here", "_law_names", "_law_rules", "_law_k", "_law_body", "_law_j", "_law_thing"] ["_law_deal_here", "_law_letters_here"] (defScope sGrammarL) := ⟨rfl, rfl, rfl, by decide +kernel, rfl, by decide +kernel, by decide +kernel⟩
theorem d_law_grammar (B : Blt mg) (d_law_draw : DDraw P w K mg base) (T : Top3 K mg "_law_grammar" sGrammarL) : Def3 P w K mg base 2 "_law_grammar" ["_law_deal_here", "_law_letters_here"] (spD K IsDeal 1 (grammarF 7)) := by
 refine mk_D T scGrammarL (fun _ _ _ _ _ _ us hl => len2 hl fun _ _ => rfl) rfl fun f cdv A outer s H E O hφ C => ?_
 have hO : ∀ j : Unit, IsDeal ((fun _ : Unit => O) j) := fun _ => hφ
 refine ⟨_, (ss_cons (s_set 2 (e_add C e_int (e_callO 0 C d_law_draw hO (a_cons e_int a_nil)))) (ss_cons (s_set 3 (e_lst a_nil)) (ss_cons (s_for C (j_new (i_r1 C B (a_cons (e_callO 0 C d_law_draw hO (a_cons e_int a_nil)) a_nil))) (g_name (h := 1000) 4) (ss_cons (s_set 5 (e_lst a_nil)) (ss_cons (s_for C (j_new (i_r1 C B (a_cons (e_callO 0 C d_law_draw hO (a_cons e_int a_nil)) a_nil))) (g_name (h := 1000) 6) (ss_cons (s_set 7 (e_idx C (e_var 1) (e_callO 0 C d_law_draw hO (a_cons (e_len C B (a_cons (e_var 1) a_nil)) a_nil)))) (ss_cons (s_if (t_w (w_and (t_eq C (e_callO 0 C d_law_draw hO (a_cons e_int a_nil)) e_int) (w_and1 (t_lt (e_len C B (a_cons (e_comp 1 ["_law_one", "_law_deal_here", "_law_letters_here", "_law_names", "_law_rules", "_law_k", "_law_body", "_law_j", "_law_thing"] C (fun _ => .of rfl (by kernel_rfl)) (i_list C (e_var 5)) (g_name 0) (f_one (t_not (t_val (e_isI (T := "str") (C.comp _ _) B (e_var 0) B.str)))) (e_var 0)) a_nil)) e_int)))) (ss_one (s_set 7 (e_callO 0 C d_law_draw hO (a_cons (e_var 2) a_nil)))) ss_nil) (ss_one (s_app 5 C (e_var 7)))))) (ss_one (s_app 3 C (e_tup (a_cons (e_callO 0 C d_law_draw hO (a_cons (e_var 2) a_nil)) (a_cons (e_tuplec C B (a_cons (e_var 5) a_nil)) a_nil)))))))) (ss_one (s_ret (e_tup (a_cons (e_var 2) (a_cons (e_tuplec C B (a_cons (e_var 3) a_nil)) a_nil)))))))), fun ds Qr hn q => ?_⟩
 obtain ⟨ls, rfl, l1, l26, hlow, q⟩ := q
 have sz := sizeLine_eq
 have hll : lenF [PyData.list (ls.map fun c => .str (sg c))] = some (.o (.int (ls.length : Nat))) := by
   show some (R.o (.int ((ls.map fun c => PyData.str (sg c)).length : Nat))) = _
   rw [List.length_map]
 (repeat infer_instance)
 refine dr (by decide) (by decide) fun k1 hk1 => ?_
 (repeat infer_instance)
 refine dr (by decide) (by decide) fun k2 hk2 => ?_
 (repeat infer_instance)
 refine ⟨by omega, by omega, rfl, ?_⟩
 refine forGo_rev (fun j ρ => ∃ (rs : List RuG) (rd : List PyData) (o4 o5 o6 o7 : Option DV), ρ = [some .ob, some (.im (.list (ls.map fun c => .str (sg c)))), some (.im (.int (1 + (k1 : Nat)))), some (.own rd), o4, o5, o6, o7] ∧ rd = rs.map encRg ∧ rs.length = j ∧ ∀ r ∈ rs, 0 ≤ r.n ∧ r.n < 1 + (k1 : Int) ∧ r.b.length ≤ 3 ∧ (r.b.filter GThg.isN).length ≤ 2 ∧ ∀ t ∈ r.b, ThGood ls (1 + k1) t) ⟨[], [], none, none, none, none, rfl, rfl, rfl, fun x h => (List.not_mem_nil h).elim⟩ (fun ρ zz => ?_) fun j d ρ N hd hN zz => ?_
 · obtain ⟨rs, rd, o4, o5, o6, o7, e, ed, h1, h2⟩ := zz
   subst ed
   subst e
   rw [numsD_len] at h1
   (repeat infer_instance)
   exact q ⟨1 + (k1 : Int), rs⟩ (by show 1 ≤ 1 + (k1 : Int); omega) (by show 1 + (k1 : Int) ≤ 3; omega) (by show rs.length < 7; omega) fun r hr => by
     have := h2 r hr
     rw [show (1 + (k1 : Int)).toNat = 1 + k1 by omega]
     exact this
 · obtain ⟨rs, rd, o4, o5, o6, o7, e, ed, h1, h2⟩ := zz
   subst ed
   subst e
   obtain ⟨hj, rfl⟩ := numsD_get hd
   (repeat infer_instance)
   refine dr (by decide) (by decide) fun k3 hk3 => ?_
   (repeat infer_instance)
   refine ⟨by omega, by omega, rfl, ?_⟩
   refine forGo_rev (fun i ρ => ∃ (bs : List GThg) (o6 o7 : Option DV), ρ = [some .ob, some (.im (.list (ls.map fun c => .str (sg c)))), some (.im (.int (1 + (k1 : Nat)))), some (.own (rs.map encRg)), some (.im (.int (0 + (j : Int)))), some (.own (bs.map encTh)), o6, o7] ∧ bs.length = i ∧ (bs.filter GThg.isN).length ≤ 2 ∧ ∀ t ∈ bs, ThGood ls (1 + k1) t) ⟨[], _, _, rfl, rfl, by decide, fun x h => (List.not_mem_nil h).elim⟩ (fun ρ zz => ?_) fun i d ρ N2 hd2 hN2 zz => ?_
   · obtain ⟨bs, o6, o7, e, g1, g2, g3⟩ := zz
     subst e
     rw [numsD_len] at g1
     (repeat infer_instance)
     refine dr (by omega) (by omega) fun k4 hk4 => ?_
     (repeat infer_instance)
     refine ⟨flat_rg ⟨(k4 : Int), bs⟩, by rw [List.length_map]; omega, hN _ ⟨rs ++ [⟨(k4 : Int), bs⟩], _, _, _, _, _, rfl, by rw [List.map_append]; rfl, by rw [List.length_append, h1]; rfl, mem_snoc h2 ⟨by show (0 : Int) ≤ k4; omega, hk4, by show bs.length ≤ 3; omega, g2, g3⟩⟩⟩
   · obtain ⟨bs, o6, o7, e, g1, g2, g3⟩ := zz
     subst e
     obtain ⟨hi, rfl⟩ := numsD_get hd2
     have app : ∀ (t : GThg) (o : Option DV), ThGood ls (1 + k1) t → (t.isN = true → (bs.filter GThg.isN).length < 2) → N2 [some .ob, some (.im (.list (ls.map fun c => .str (sg c)))), some (.im (.int (1 + (k1 : Nat)))), some (.own (rs.map encRg)), some (.im (.int (0 + (j : Int)))), some (.own (bs.map encTh ++ [encTh t])), some (.im (.int (0 + (i : Int)))), o] := fun t o h3 h4 => by
       refine hN2 _ ⟨bs ++ [t], _, _, by rw [List.map_append]; rfl, by rw [List.length_append, g1]; rfl, ?_, mem_snoc g3 h3⟩
       rw [fil_snoc]
       split
       · have := h4 ‹_›; omega
       · omega
     have bl : (bs.map encTh).length < sizeLine := by rw [List.length_map]; omega
     (repeat first | refine ⟨_, hll, ?_⟩ | refine ⟨hll, ?_⟩ | infer_instance)
     refine dr (by omega) (by omega) fun k5 hk5 => ?_
     have hc : k5 < ls.length := by omega
     refine ⟨_, idx_lst (by rw [List.getElem?_map, List.getElem?_eq_getElem hc]; rfl), rfl, ?_⟩
     have ht : ThGood ls (1 + k1) (.lt [ls[k5]]) := ⟨ls[k5], List.getElem_mem hc, rfl⟩
     (repeat infer_instance)
     refine dr (by decide) (by decide) fun k6 hk6 => ?_
     (repeat infer_instance)
     refine iteB (fun a1 => ?_) fun a1 => ?_
     · (repeat infer_instance)
       refine comp_fil (α := GThg) (enc := encTh) (p := GThg.isN) (e := encTh) (fun t ht Pn Py hn hy => ?_) (by omega) ?_
       · cases t with
         | nm i =>
           (repeat infer_instance)
           exact hy rfl _ rfl
         | lt v =>
           (repeat infer_instance)
           exact hn rfl
       (repeat infer_instance)
       refine iteB (fun a2 => ?_) fun a2 => ?_
       · (repeat infer_instance)
         refine dr (by omega) (by omega) fun k7 hk7 => ?_
         (repeat infer_instance)
         refine ⟨bl, app (.nm (k7 : Int)) _ ⟨by omega, by omega⟩ fun _ => ?_⟩
         have := of_decide_eq_true a2
         rw [List.length_map] at this
         omega
       · (repeat infer_instance)
         exact ⟨bl, app (.lt [ls[k5]]) _ ht (fun z => by cases z)⟩
     · (repeat infer_instance)
       exact ⟨bl, app (.lt [ls[k5]]) _ ht (fun z => by cases z)⟩
end
section
variable {P : Program} {w : World} {K : PySem.W.Frag} {mg : Str → Option Value} {base : Heap} {k : Nat}
abbrev sInnerL : Stmt := top 16
theorem scInnerL : FnScope ["_law_body"] ["_law_body"] (defScope sInnerL) := ⟨rfl, rfl, rfl, by decide +kernel, rfl, by decide +kernel, by decide +kernel⟩
theorem d_law_inner (B : Blt mg) (T : Top3 K mg "_law_inner" sInnerL) : Def3 P w K mg base 1 "_law_inner" ["_law_body"] (spO K (fun _ => True) 1 namesInF) := by
 refine mk_O T scInnerL (fun _ _ _ _ _ _ us hl => len1 hl fun _ => rfl) rfl fun f cdv A outer s H E O hφ C => ⟨_, (ss_one (s_ret (e_comp 1 ["_law_thing", "_law_body"] C (fun _ => .of rfl (by kernel_rfl)) (i_tup C (e_var 0)) (g_name 0) (f_one (t_not (t_val (e_isI (T := "str") (C.comp _ _) B (e_var 0) B.str)))) (e_var 0)))), fun ds Qr hn q => ?_⟩
 obtain ⟨b, rfl, hb, q⟩ := q
 have sz := sizeLine_eq
 (repeat infer_instance)
 refine comp_fil (α := GThg) (enc := encTh) (p := GThg.isN) (e := encTh) (fun t ht Pn Py hn hy => ?_) (by omega) ?_
 · cases t with
   | nm i =>
     (repeat infer_instance)
     exact hy rfl _ rfl
   | lt v =>
     (repeat infer_instance)
     exact hn rfl
 · exact q
end
section
variable {P : Program} {w : World} {K : PySem.W.Frag} {mg : Str → Option Value} {base : Heap} {k : Nat}
abbrev sIsTreeL : Stmt := top 17
theorem scIsTreeL : FnScope ["_law_grammar_here", "_law_name", "_law_tree_here", "_law_inner_here"] ["_law_grammar_here", "_law_name", "_law_tree_here"] (defScope sIsTreeL) := ⟨rfl, rfl, rfl, by decide +kernel, rfl, by decide +kernel, by decide +kernel⟩
theorem rd_law_is_tree (B : Blt mg) (d_law_whole : Def3 P w K mg base 1 "_law_whole" ["_law_found"] (spO K (fun _ => True) 1 wholeTF)) (d_law_inner : Def3 P w K mg base 1 "_law_inner" ["_law_body"] (spO K (fun _ => True) 1 namesInF)) (T : Top3 K mg "_law_is_tree" sIsTreeL) : ∀ m, Def3 P w K mg base (1 + m) "_law_is_tree" ["_law_grammar_here", "_law_name", "_law_tree_here"] (spO K (fun _ => True) 3 (isTreeRF m))
 | 0 => by
   obtain ⟨f, fd, Fu, m⟩ := T.ex
   refine ⟨f, fd, Fu.ok scIsTreeL (spO_len rfl) (fun cdv A outer s H vs Q E hr h => ?_), m, Fu.kp, Fu.binds (fun _ _ _ _ _ _ us hl => len3 hl fun _ _ _ => rfl)⟩
   obtain ⟨O, ds, Qr, ok, hφ, p, hl, is, q, kk⟩ := h
   exact (isTreeRF_zero q).elim
 | m + 1 => by
   have d_law_is_tree := rd_law_is_tree B d_law_whole d_law_inner T m
   refine mk_O (k := 1 + m) T scIsTreeL (fun _ _ _ _ _ _ us hl => len3 hl fun _ _ _ => rfl) rfl fun f cdv A outer s H E O hφ C => ⟨_, (ss_cons (s_if (t_w (w_or (t_not (t_val (e_isI (T := "tuple") C B (e_var 2) B.tuple))) (w_or (t_ne C (e_len C B (a_cons (e_var 2) a_nil)) e_int) (w_or (t_not (t_val (e_call C d_law_whole (hk := Nat.le_trans (by decide) (Nat.le_add_right 1 m)) (fun _ => trivial) (a_cons (e_idx C (e_var 2) e_int) a_nil)))) (w_or1 (t_not (t_val (e_isI (T := "tuple") C B (e_idx C (e_var 2) e_int) B.tuple)))))))) (ss_one (s_ret e_bl)) ss_nil) (ss_cons (s_if (t_w (w_or (t_notR C B (e_idx C (e_var 2) e_int) (a_cons (e_len C B (a_cons (e_idx C (e_var 0) e_int) a_nil)) a_nil)) (w_or1 (t_ne C (e_idx C (e_idx C (e_idx C (e_var 0) e_int) (e_idx C (e_var 2) e_int)) e_int) (e_var 1))))) (ss_one (s_ret e_bl)) ss_nil) (ss_cons (s_set 3 (e_call C d_law_inner (hk := Nat.le_trans (by decide) (Nat.le_add_right 1 m)) (fun _ => trivial) (a_cons (e_idx C (e_idx C (e_idx C (e_var 0) e_int) (e_idx C (e_var 2) e_int)) e_int) a_nil))) (ss_cons (s_if (t_ne C (e_len C B (a_cons (e_var 3) a_nil)) (e_len C B (a_cons (e_idx C (e_var 2) e_int) a_nil))) (ss_one (s_ret e_bl)) ss_nil) (ss_one (s_ret (e_all C B (a_cons (e_comp 2 ["_law_k", "_law_kid", "_law_grammar_here", "_law_name", "_law_tree_here", "_law_inner_here"] C (fun _ => .of rfl (by kernel_rfl)) (i_enumT C B (e_idx C (e_var 2) e_int)) (g_tup (C.comp _ _) (gq_cons 0 (gq_cons 1 gq_nil))) f_nil (e_call (C.comp _ _) d_law_is_tree (hk := Nat.le_refl _) (fun _ => trivial) (a_cons (e_var 2) (a_cons (e_idx (C.comp _ _) (e_var 5) (e_var 0)) (a_cons (e_var 1) a_nil))))) a_nil)))))))), fun ds Qr hn q => ?_⟩
   obtain ⟨g, x, d, rfl, ok, lk, q⟩ := q
   have many := ok.many
   have sz := sizeLine_eq
   rcases lk with ⟨a, ks, rfl, l3, hks⟩ | ⟨o, _⟩
   · have fk : flats ks = true := flats_all fun k m => (hks k m).flat
     rw [isT_node] at q
     (repeat infer_instance)
     refine .inl ⟨a, rfl, ?_⟩
     (repeat infer_instance)
     rw [show (decide (0 ≤ a) && decide (a < (((g.rs.map encRg).length : Nat) : Int))) = thB a g.rs.length by rw [List.length_map]; rfl]
     cases ha : thB a g.rs.length with
     | false =>
       rw [ha, Bool.false_and] at q
       (repeat infer_instance)
       exact q
     | true =>
       rw [ha, Bool.true_and] at q
       have be := (ok.each _ (at_get_g ha).2.1).2.1
       (repeat infer_instance)
       refine ⟨_, idx_g ha, ?_⟩
       (repeat infer_instance)
       by_cases hx : (g.at_ a).n = x
       · rw [decide_eq_true hx, Bool.true_and] at q
         rw [decide_eq_true hx]
         (repeat infer_instance)
         refine ⟨_, idx_g ha, ?_⟩
         (repeat infer_instance)
         refine ⟨by omega, ?_⟩
         rw [nms_enc]
         refine ⟨flats_map (fun _ => rfl) _, ?_⟩
         (repeat infer_instance)
         rw [List.length_map]
         by_cases hl : (nms (g.at_ a).b).length = ks.length
         · rw [decide_eq_true hl, Bool.true_and] at q
           rw [decide_eq_true (show (((nms (g.at_ a).b).length : Nat) : Int) = (ks.length : Nat) by omega)]
           (repeat infer_instance)
           refine ⟨fk, ?_⟩
           rw [enum_enc]
           refine comp_ofG (α := PyData × Nat) (enc := enumE) (e := fun p => .bool (g.isT m ((nms (g.at_ a).b).getD p.2 0) p.1)) (fun p hp P hP => ?_) gT_mono (by rw [List.length_zipIdx]; omega) ?_
           · obtain ⟨k, i⟩ := p
             have hi := List.mem_zipIdx' hp
             have lt : i < (nms (g.at_ a).b).length := by rw [hl]; exact hi.1
             have hk : k ∈ ks := by rw [hi.2]; exact List.getElem_mem _
             have gi : (nms (g.at_ a).b)[i]? = some ((nms (g.at_ a).b).getD i 0) := by rw [List.getD_eq_getElem?_getD, List.getElem?_eq_getElem lt]; rfl
             (repeat infer_instance)
             refine ⟨_, idx_lst (i := i) (by rw [List.getElem?_map, gi]; rfl), ?_⟩
             (repeat infer_instance)
             refine ⟨ok, hks k hk, hP _ rfl⟩
           · refine ⟨ks.zipIdx.map fun p => g.isT m ((nms (g.at_ a).b).getD p.2 0) p.1, by rw [List.map_map]; rfl, ?_⟩
             have e := all_idx (f := fun x d => g.isT m x d) (nms (g.at_ a).b) ks [] hl
             rw [List.nil_append] at e
             rw [if_neg Bool.false_ne_true, show (ks.zipIdx.map fun p => g.isT m ((nms (g.at_ a).b).getD p.2 0) p.1).all id = _ from e]
             exact q
         · rw [decide_eq_false hl, Bool.false_and] at q
           rw [decide_eq_false (show ¬ (((nms (g.at_ a).b).length : Nat) : Int) = (ks.length : Nat) by omega)]
           (repeat infer_instance)
           exact q
       · rw [decide_eq_false hx, Bool.false_and] at q
         rw [decide_eq_false hx]
         (repeat infer_instance)
         exact q
   · rw [isT_odd o] at q
     cases o with
     | nil => (repeat infer_instance); exact q
     | one => (repeat infer_instance); exact q
     | three => (repeat infer_instance); exact q
     | tup => (repeat infer_instance); refine .inr ⟨_, rfl, ?_⟩; (repeat infer_instance); exact q
     | num => (repeat infer_instance); refine .inl ⟨_, rfl, ?_⟩; (repeat infer_instance); exact q
theorem d_law_is_tree (B : Blt mg) (d_law_whole : Def3 P w K mg base 1 "_law_whole" ["_law_found"] (spO K (fun _ => True) 1 wholeTF)) (d_law_inner : Def3 P w K mg base 1 "_law_inner" ["_law_body"] (spO K (fun _ => True) 1 namesInF)) (T : Top3 K mg "_law_is_tree" sIsTreeL) : Def3 P w K mg base 11 "_law_is_tree" ["_law_grammar_here", "_law_name", "_law_tree_here"] (spO K (fun _ => True) 3 (isTreeRF 10)) := rd_law_is_tree B d_law_whole d_law_inner T 10
end
section
variable {P : Program} {w : World} {K : PySem.W.Frag} {mg : Str → Option Value} {base : Heap} {k : Nat}
abbrev sWordOfL : Stmt := top 18
theorem scWordOfL : FnScope ["_law_grammar_here", "_law_tree_here", "_law_kids", "_law_found", "_law_thing"] ["_law_grammar_here", "_law_tree_here"] (defScope sWordOfL) := ⟨rfl, rfl, rfl, by decide +kernel, rfl, by decide +kernel, by decide +kernel⟩
theorem rd_law_word_of (B : Blt mg) (T : Top3 K mg "_law_word_of" sWordOfL) : ∀ m, Def3 P w K mg base (1 + m) "_law_word_of" ["_law_grammar_here", "_law_tree_here"] (spO K (fun _ => True) 2 (wordRF m))
 | 0 => by
   obtain ⟨f, fd, Fu, m⟩ := T.ex
   refine ⟨f, fd, Fu.ok scWordOfL (spO_len rfl) (fun cdv A outer s H vs Q E hr h => ?_), m, Fu.kp, Fu.binds (fun _ _ _ _ _ _ us hl => len2 hl fun _ _ => rfl)⟩
   obtain ⟨O, ds, Qr, ok, hφ, p, hl, is, q, kk⟩ := h
   exact (wordRF_zero q).elim
 | m + 1 => by
   have d_law_word_of := rd_law_word_of B T m
   refine mk_O (k := 1 + m) T scWordOfL (fun _ _ _ _ _ _ us hl => len2 hl fun _ _ => rfl) rfl fun f cdv A outer s H E O hφ C => ⟨_, (ss_cons (s_setC 2 1 ["_law_kid", "_law_grammar_here", "_law_tree_here", "_law_kids", "_law_found", "_law_thing"] C (fun _ => .of rfl (by kernel_rfl)) (i_tup C (e_idx C (e_var 1) e_int)) (g_name 0) f_nil (e_call (C.comp _ _) d_law_word_of (hk := Nat.le_refl _) (fun _ => trivial) (a_cons (e_var 1) (a_cons (e_var 0) a_nil)))) (ss_cons (s_set 3 e_str) (ss_cons (s_for C (j_new (i_tup C (e_idx C (e_idx C (e_idx C (e_var 0) e_int) (e_idx C (e_var 1) e_int)) e_int))) (g_name (h := 1000) 4) (ss_one (s_addPop 3 2 C (e_var 3) (t_val (e_isI (T := "str") C B (e_var 4) B.str)) (e_var 4)))) (ss_one (s_ret (e_var 3)))))), fun ds Qr hn q => ?_⟩
   obtain ⟨g, d, rfl, ok, m10, gd, q⟩ := q
   obtain ⟨a, ks, rfl, l3, ha, hl, hks⟩ := gd
   have sz := sizeLine_eq
   have be := (ok.each _ (at_get_g ha).2.1).2.1
   have fk : flats ks = true := flats_all fun k m => (hks k m).lk.flat
   rw [wordT_node] at q
   have wl : (wordB (g.at_ a).b (ks.map (g.wordT m))).length ≤ 16777216 := by
     have h1 : (g.wordT (m + 1) (nodeD a ks)).length ≤ _ := word_len ok (n := m + 1) ⟨a, ks, rfl, l3, ha, hl, hks⟩
     have h2 := cntT_le (n := m + 1) (d := nodeD a ks) (.inl ⟨a, ks, rfl, l3, fun k hk => (hks k hk).lk⟩)
     have h3 : 4 ^ (m + 1) ≤ 4 ^ 10 := Nat.pow_le_pow_right (by decide) m10
     have h4 : (4 : Nat) ^ 10 = 1048576 := by decide
     rw [wordT_node] at h1
     omega
   have go : ∀ (b : List GThg) (ws : List (List Nat)) (v : List Nat) (x4 : Option DV) (Dd : DEnds), (nms b).length = ws.length → v.length + (wordB b ws).length ≤ 16777216 → (∀ x4 : Option DV, Dd.nx [some (.im (encGz g)), some (.im (nodeD a ks)), some (.own []), some (.im (.str (tx (v ++ wordB b ws)))), x4]) → forGo (gN 4) (addPop 3 2 (vD 3) (bD (isID "str" (vD 4))) (vD 4)) Dd (b.map encTh) [some (.im (encGz g)), some (.im (nodeD a ks)), some (.own (ws.map fun w => .str (tx w))), some (.im (.str (tx v))), x4] := by
     intro b
     induction b with
     | nil =>
       intro ws v x4 Dd hl hv hD
       have e : ws = [] := List.eq_nil_of_length_eq_zero hl.symm
       subst e
       have := hD x4
       rw [wordB, List.append_nil] at this
       exact this
     | cons t b ih =>
       intro ws v x4 Dd hl hv hD
       cases t with
       | lt w =>
         rw [wordB, List.length_append] at hv
         refine ⟨rfl, ?_⟩
         (repeat infer_instance)
         refine ⟨_, _, rfl, add_tx (v := v) (w := w) (by omega), ?_⟩
         exact ih ws (v ++ w) _ Dd hl (by rw [List.length_append]; omega) (fun x4 => by
           have z := hD x4
           rw [wordB] at z
           rw [List.append_assoc]
           exact z)
       | nm i =>
         match ws, hl, hv, hD with
         | [], hl, _, _ => exact absurd hl (by simp [nms, GThg.isN])
         | w :: ws, hl, hv, hD =>
           rw [wordB, List.length_append] at hv
           refine ⟨rfl, ?_⟩
           (repeat infer_instance)
           refine ⟨_, _, _, rfl, add_tx (v := v) (w := w) (by omega), ?_⟩
           exact ih ws (v ++ w) _ Dd (by have : (nms b).length + 1 = ws.length + 1 := hl; omega) (by rw [List.length_append]; omega) (fun x4 => by
             have z := hD x4
             rw [wordB] at z
             rw [List.append_assoc]
             exact z)
   (repeat infer_instance)
   refine comp_plain (e := fun d => .str (tx (g.wordT m d))) (fun d hd P hP => ?_) (by omega) ?_
   · (repeat infer_instance)
     exact ⟨ok, by omega, hks d hd, hP _ rfl⟩
   · refine ⟨flats_map (fun _ => rfl) _, ?_⟩
     (repeat infer_instance)
     refine ⟨_, idx_g ha, ?_⟩
     (repeat infer_instance)
     have e0 : Str.ofString "" = tx [] := by decide +kernel
     rw [e0]
     have z := go (g.at_ a).b (ks.map (g.wordT m)) [] none { nx := retS (vD 3) { nx := fun x => Qr (R.o PyData.none), rt := Qr }, rt := Qr } (by rw [List.length_map]; exact hl) (by rw [List.length_nil]; omega) (fun x4 => ⟨_, _, rfl, rfl, q⟩)
     rw [List.map_map] at z
     exact z
theorem d_law_word_of (B : Blt mg) (T : Top3 K mg "_law_word_of" sWordOfL) : Def3 P w K mg base 11 "_law_word_of" ["_law_grammar_here", "_law_tree_here"] (spO K (fun _ => True) 2 (wordRF 10)) := rd_law_word_of B T 10
end
section
variable {P : Program} {w : World} {K : PySem.W.Frag} {mg : Str → Option Value} {base : Heap} {k : Nat}
abbrev sSizeL : Stmt := top 19
theorem scSizeL : FnScope ["_law_tree_here"] ["_law_tree_here"] (defScope sSizeL) := ⟨rfl, rfl, rfl, by decide +kernel, rfl, by decide +kernel, by decide +kernel⟩
theorem rd_law_size (B : Blt mg) (T : Top3 K mg "_law_size" sSizeL) : ∀ m, Def3 P w K mg base (1 + m) "_law_size" ["_law_tree_here"] (spO K (fun _ => True) 1 (sizeRF m))
 | 0 => by
   obtain ⟨f, fd, Fu, m⟩ := T.ex
   refine ⟨f, fd, Fu.ok scSizeL (spO_len rfl) (fun cdv A outer s H vs Q E hr h => ?_), m, Fu.kp, Fu.binds (fun _ _ _ _ _ _ us hl => len1 hl fun _ => rfl)⟩
   obtain ⟨O, ds, Qr, ok, hφ, p, hl, is, q, kk⟩ := h
   exact (sizeRF_zero q).elim
 | m + 1 => by
   have d_law_size := rd_law_size B T m
   refine mk_O (k := 1 + m) T scSizeL (fun _ _ _ _ _ _ us hl => len1 hl fun _ => rfl) rfl fun f cdv A outer s H E O hφ C => ⟨_, (ss_one (s_ret (e_add C e_int (e_sum C B (a_cons (e_comp 1 ["_law_kid", "_law_tree_here"] C (fun _ => .of rfl (by kernel_rfl)) (i_tup C (e_idx C (e_var 0) e_int)) (g_name 0) f_nil (e_call (C.comp _ _) d_law_size (hk := Nat.le_refl _) (fun _ => trivial) (a_cons (e_var 0) a_nil))) a_nil))))), fun ds Qr hn q => ?_⟩
   obtain ⟨g, d, rfl, m10, gd, q⟩ := q
   obtain ⟨a, ks, rfl, l3, ha, hl, hks⟩ := gd
   have sz := sizeLine_eq
   have fk : flats ks = true := flats_all fun k m => (hks k m).lk.flat
   rw [cntT_node] at q
   (repeat infer_instance)
   refine comp_plain (e := fun d => .int (cntT m d : Nat)) (fun d hd P hP => ?_) (by omega) ?_
   · (repeat infer_instance)
     exact ⟨g, d, rfl, by omega, hks d hd, hP _ rfl⟩
   · refine ⟨ks.map fun d => ((cntT m d : Nat) : Int), by rw [List.map_map]; rfl, ?_⟩
     have e : ∀ l : List PyData, (l.map fun d => ((cntT m d : Nat) : Int)).sum = ((l.map (cntT m)).sum : Nat) := fun l => by
       induction l with
       | nil => rfl
       | cons x l ih => rw [List.map_cons, List.sum_cons, ih, List.map_cons, List.sum_cons]; omega
     rw [e]
     (repeat infer_instance)
     have e2 : (1 : Int) + (((ks.map (cntT m)).sum : Nat) : Int) = ((1 + (ks.map (cntT m)).sum : Nat) : Int) := by omega
     rw [e2]
     exact q
theorem d_law_size (B : Blt mg) (T : Top3 K mg "_law_size" sSizeL) : Def3 P w K mg base 11 "_law_size" ["_law_tree_here"] (spO K (fun _ => True) 1 (sizeRF 10)) := rd_law_size B T 10
end
section
variable {P : Program} {w : World} {K : PySem.W.Frag} {mg : Str → Option Value} {base : Heap} {k : Nat}
abbrev sLeastTreesL : Stmt := top 20
theorem scLeastTreesL : FnScope ["_law_grammar_here", "_law_trees", "_law_more", "_law_ready", "_law_at", "_law_name", "_law_body"] ["_law_grammar_here"] (defScope sLeastTreesL) := ⟨rfl, rfl, rfl, by decide +kernel, rfl, by decide +kernel, by decide +kernel⟩
theorem d_law_least_trees (B : Blt mg) (d_law_inner : Def3 P w K mg base 1 "_law_inner" ["_law_body"] (spO K (fun _ => True) 1 namesInF)) (T : Top3 K mg "_law_least_trees" sLeastTreesL) : Def3 P w K mg base 2 "_law_least_trees" ["_law_grammar_here"] (spK K (fun _ => True) 1 leastTF) := by
 refine mk_K T scLeastTreesL (fun _ _ _ _ _ _ us hl => len1 hl fun _ => rfl) rfl fun f cdv A outer s H E O hφ C => ⟨_, (k_cons (s_newDN 1) (k_cons (s_set 2 e_bl) (k_cons (s_while C (t_tru C (e_var 2)) (ss_cons (s_set 2 e_bl) (ss_cons (s_cpyDN 3 1 C B) (ss_one (s_for C (j_new (i_enumT C B (e_idx C (e_var 0) e_int))) (g_tup2 (h := 1000) C 4 (gq_cons 5 (gq_cons 6 gq_nil))) (ss_one (s_if (t_w (w_and (t_ninDN 1 C (e_var 5)) (w_and1 (t_val (e_all C B (a_cons (e_comp 1 ["_law_one", "_law_grammar_here", "_law_trees", "_law_more", "_law_ready", "_law_at", "_law_name", "_law_body"] C (fun _ => .of rfl (by kernel_rfl)) (i_list C (e_call C d_law_inner (fun _ => trivial) (a_cons (e_var 6) a_nil))) (g_name 0) f_nil (e_inDN 4 (C.comp _ _) (e_var 0))) a_nil)))))) (ss_cons (s_putDN 1 C (e_tup (a_cons (e_var 4) (a_cons (e_tuplec C B (a_cons (e_comp 1 ["_law_one", "_law_grammar_here", "_law_trees", "_law_more", "_law_ready", "_law_at", "_law_name", "_law_body"] C (fun _ => .of rfl (by kernel_rfl)) (i_list C (e_call C d_law_inner (fun _ => trivial) (a_cons (e_var 6) a_nil))) (g_name 0) f_nil (e_getDN 4 (C.comp _ _) (e_var 0))) a_nil)) a_nil))) (e_var 5)) (ss_one (s_set 2 e_bl))) ss_nil))))))) (k_ret 1)))), fun ds Qr hn q => ?_⟩
 obtain ⟨g, rfl, ok, q⟩ := q
 have sz := sizeLine_eq
 have many := ok.many
 (repeat infer_instance)
 refine ⟨fun k ρ => ∃ (kvs : KD) (more : Bool) (x3 x4 x5 x6 : Option DV), TreesOk g kvs ∧ k = (if more = true then 4 - kvs.length else 0) ∧ ρ = [some (.im (encGz g)), some (.thg (DctN kvs)), some (.im (.bool more)), x3, x4, x5, x6], ⟨_, [], true, none, none, none, none, trees_nil, rfl, rfl⟩, ?_⟩
 rintro k ρ ⟨kvs, more, x3, x4, x5, x6, tk, rfl, rfl⟩
 (repeat infer_instance)
 cases more with
 | false =>
   (repeat infer_instance)
   exact q kvs tk
 | true =>
   (repeat infer_instance)
   refine ⟨kvs, .inl rfl, ?_⟩
   (repeat infer_instance)
   refine ⟨flats_map flat_rg g.rs, rfl, ?_⟩
   rw [enum_enc]
   refine forGo_rev (fun i ρ => ∃ (ext : KD) (x4 x5 x6 : Option DV), TreesOk g (kvs ++ ext) ∧ ρ = [some (.im (encGz g)), some (.thg (DctN (kvs ++ ext))), some (.im (.bool (decide (0 < ext.length)))), some (.thg (DctN kvs)), x4, x5, x6]) ⟨[], x4, x5, x6, by rw [List.append_nil]; exact tk, by rw [List.append_nil]; rfl⟩ (fun ρ hρ => ?_) fun i d ρ N hd nx hρ => ?_
   · obtain ⟨ext, x4, x5, x6, te, rfl⟩ := hρ
     have l3 := te.len
     have l0 := tk.len
     rw [List.length_append] at l3
     refine ⟨_, ?_, kvs ++ ext, decide (0 < ext.length), _, _, _, _, te, rfl, rfl⟩
     rw [if_pos rfl, List.length_append]
     by_cases z : 0 < ext.length
     · rw [if_pos (decide_eq_true z)]; omega
     · rw [if_neg (by simpa using z)]; omega
   · obtain ⟨ext, x4, x5, x6, te, rfl⟩ := hρ
     rw [List.getElem?_map] at hd
     obtain ⟨⟨y, j⟩, hy, rfl⟩ := Option.map_eq_some_iff.mp hd
     have hm := List.mem_zipIdx' (List.mem_of_getElem? hy)
     obtain ⟨r, hr, rfl⟩ := List.mem_map.mp (show y ∈ g.rs.map encRg by rw [hm.2]; exact List.getElem_mem _)
     have er := ok.each r hr
     have stay : N [some (.im (encGz g)), some (.thg (DctN (kvs ++ ext))), some (.im (.bool (decide (0 < ext.length)))), some (.thg (DctN kvs)), some (.im (.int (j : Nat))), some (.im (.int r.n)), some (.im (.tuple (r.b.map encTh)))] := nx _ ⟨ext, _, _, _, te, rfl⟩
     refine ⟨by show (true && (flat (encRg r) && true)) = true; rw [flat_rg]; rfl, ?_⟩
     (repeat infer_instance)
     refine ⟨kvs ++ ext, .inl rfl, ?_⟩
     (repeat infer_instance)
     cases hz : KD.at_ (kvs ++ ext) r.n with
     | some t =>
       (repeat infer_instance)
       exact stay
     | none =>
       (repeat infer_instance)
       refine ⟨by omega, ?_⟩
       rw [nms_enc]
       refine ⟨_, rfl, ?_⟩
       refine comp_of (α := Int) (enc := .int) (e := fun i => .bool (kvs.at_ i).isSome) (fun i hi P hP => ?_) (by omega) ?_
       · refine ⟨kvs, .inl rfl, ?_⟩
         (repeat infer_instance)
         exact hP _ rfl
       refine ⟨(nms r.b).map fun i => (kvs.at_ i).isSome, by rw [List.map_map]; rfl, ?_⟩
       (repeat infer_instance)
       cases ha : ((nms r.b).map fun i => (kvs.at_ i).isSome).all id with
       | false =>
         (repeat infer_instance)
         exact stay
       | true =>
         have hall : ∀ i ∈ nms r.b, (kvs.at_ i).isSome = true := fun i hi => by
           have := List.all_eq_true.mp ha _ (List.mem_map.mpr ⟨i, hi, rfl⟩)
           exact this
         have get : ∀ i ∈ nms r.b, kvs.at_ i = some ((kvs.at_ i).getD .none) := fun i hi => by
           have := hall i hi
           cases z : kvs.at_ i with
           | none => rw [z] at this; cases this
           | some d => rfl
         (repeat infer_instance)
         refine ⟨by omega, ?_⟩
         rw [nms_enc]
         refine ⟨_, rfl, ?_⟩
         refine comp_of (α := Int) (enc := .int) (e := fun i => (kvs.at_ i).getD .none) (fun i hi P hP => ?_) (by omega) ?_
         · refine ⟨kvs, .inl rfl, ?_⟩
           (repeat infer_instance)
           exact ⟨_, _, rfl, get i hi, hP (.o _) rfl⟩
         have kk : ∀ k ∈ (nms r.b).map (fun i => (kvs.at_ i).getD .none), ∃ i, kvs.at_ i = some k := fun k hk => by
           obtain ⟨i, hi, rfl⟩ := List.mem_map.mp hk
           exact ⟨i, get i hi⟩
         have put := te.put ok hr hz hall tk.nt (a := (j : Nat)) (ks := (nms r.b).map fun i => (kvs.at_ i).getD .none) (by rw [List.length_map]; exact er.2.2.1) kk
         have pl := put.len
         (repeat infer_instance)
         refine ⟨?_, hz, ?_, ?_⟩
         · exact flat_node (a := (j : Nat)) fun k hk => by
             obtain ⟨i, hi⟩ := kk k hk
             exact (tk.nt _ (KD.mem hi)).lk.flat
         · rw [List.length_append, List.length_singleton] at pl; omega
         · (repeat infer_instance)
           refine nx _ ⟨ext ++ [(r.n, nodeD (j : Nat) ((nms r.b).map fun i => (kvs.at_ i).getD .none))], some (.im (.int (j : Nat))), some (.im (.int r.n)), some (.im (.tuple (r.b.map encTh))), ?_, ?_⟩
           · rw [← List.append_assoc]; exact put
           · rw [← List.append_assoc, List.length_append]
             rw [show decide (0 < ext.length + [(r.n, nodeD (j : Nat) ((nms r.b).map fun i => (kvs.at_ i).getD .none))].length) = true from decide_eq_true (by rw [List.length_singleton]; omega)]
             rfl
end
section
variable {P : Program} {w : World} {K : PySem.W.Frag} {mg : Str → Option Value} {base : Heap} {k : Nat}
abbrev sTreeL : Stmt := top 21
theorem scTreeL : FnScope ["_law_deal_here", "_law_grammar_here", "_law_trees", "_law_name", "_law_deep", "_law_some", "_law_at", "_law_one", "_law_body", "_law_inner_here"] ["_law_deal_here", "_law_grammar_here", "_law_trees", "_law_name", "_law_deep"] (defScope sTreeL) := ⟨rfl, rfl, rfl, by decide +kernel, rfl, by decide +kernel, by decide +kernel⟩
theorem rd_law_tree (B : Blt mg) (d_law_draw : DDraw P w K mg base) (d_law_inner : Def3 P w K mg base 1 "_law_inner" ["_law_body"] (spO K (fun _ => True) 1 namesInF)) (T : Top3 K mg "_law_tree" sTreeL) : ∀ m, Def3 P w K mg base (1 + m) "_law_tree" ["_law_deal_here", "_law_grammar_here", "_law_trees", "_law_name", "_law_deep"] (spG K IsDeal 5 (treeRF m))
 | 0 => by
   obtain ⟨f, fd, Fu, m⟩ := T.ex
   refine ⟨f, fd, Fu.ok scTreeL (spG_len rfl) (fun cdv A outer s H vs Q E hr h => ?_), m, Fu.kp, Fu.binds (fun _ _ _ _ _ _ us hl => len5 hl fun _ _ _ _ _ => rfl)⟩
   obtain ⟨O, ds, Qr, ok, hφ, p, hl, is, q, kk⟩ := h
   exact (treeRF_zero q).elim
 | m + 1 => by
   have d_law_tree := rd_law_tree B d_law_draw d_law_inner T m
   refine mk_G (k := 1 + m) T scTreeL (fun _ _ _ _ _ _ us hl => len5 hl fun _ _ _ _ _ => rfl) rfl fun f cdv A outer s H E O hφ C => (have hO : ∀ j : Unit, IsDeal ((fun _ : Unit => O) j) := fun _ => hφ; ⟨_, (ss_cons (s_set 5 (e_lst a_nil)) (ss_cons (s_for C (j_new (i_enumT C B (e_idx C (e_var 1) e_int))) (g_tup2 (h := 1000) C 6 (gq_cons 7 (gq_cons 8 gq_nil))) (ss_one (s_if (t_w (w_and (t_eq C (e_var 7) (e_var 3)) (w_and1 (t_val (e_all C B (a_cons (e_comp 1 ["_law_other", "_law_deal_here", "_law_grammar_here", "_law_trees", "_law_name", "_law_deep", "_law_some", "_law_at", "_law_one", "_law_body", "_law_inner_here"] C (fun _ => .of rfl (by kernel_rfl)) (i_list C (e_call C d_law_inner (hk := Nat.le_trans (by decide) (Nat.le_add_right 1 m)) (fun _ => trivial) (a_cons (e_var 8) a_nil))) (g_name 0) f_nil (e_inDN 3 (C.comp _ _) (e_var 0))) a_nil)))))) (ss_one (s_app 5 C (e_var 6))) ss_nil))) (ss_cons (s_if (t_eq C (e_var 4) e_int) (ss_one (s_ret (e_getDN 2 C (e_var 3)))) ss_nil) (ss_cons (s_set 6 (e_idx C (e_var 5) (e_callO 0 C d_law_draw (hk := Nat.le_trans (by decide) (Nat.le_add_right 1 m)) hO (a_cons (e_len C B (a_cons (e_var 5) a_nil)) a_nil)))) (ss_cons (s_set 9 (e_call C d_law_inner (hk := Nat.le_trans (by decide) (Nat.le_add_right 1 m)) (fun _ => trivial) (a_cons (e_idx C (e_idx C (e_idx C (e_var 1) e_int) (e_var 6)) e_int) a_nil))) (ss_one (s_ret (e_tup (a_cons (e_var 6) (a_cons (e_tuplec C B (a_cons (e_comp 1 ["_law_one", "_law_deal_here", "_law_grammar_here", "_law_trees", "_law_name", "_law_deep", "_law_some", "_law_at", "._law_one", "_law_body", "_law_inner_here"] C (fun _ => .of rfl (by kernel_rfl)) (i_list C (e_var 9)) (g_name 0) f_nil (e_callG (C.comp _ _) d_law_tree (hk := Nat.le_refl _) (upD hO) (g_ob 1 (g_im (e_var 2) (g_thg 3 (g_im (e_var 0) (g_im (e_sub (e_var 5) e_int) g_nil))))))) a_nil)) a_nil)))))))))), fun ds Qr hn q => ?_⟩)
   obtain ⟨g, kvs, x, j, rfl, ok, tk, hx, jm, m5, q⟩ := q
   have sz := sizeLine_eq
   have many := ok.many
   (repeat infer_instance)
   refine ⟨flats_map flat_rg g.rs, rfl, ?_⟩
   rw [enum_enc]
   refine forGo_rev (fun i ρ => ∃ (as : List Nat) (x6 x7 x8 : Option DV), (∀ a ∈ as, thB (a : Nat) g.rs.length = true ∧ ∀ i ∈ nms (g.at_ (a : Nat)).b, (kvs.at_ i).isSome = true) ∧ (∀ a r, a < i → g.rs[a]? = some r → r.n = x → (∀ i ∈ nms r.b, (kvs.at_ i).isSome = true) → a ∈ as) ∧ as.length ≤ i ∧ ρ = [some .ob, some (.im (encGz g)), some (.thr (DctN kvs)), some (.im (.int x)), some (.im (.int (j : Nat))), some (.own (as.map fun a => .int (a : Nat))), x6, x7, x8, none]) ⟨[], none, none, none, (fun _ h => by cases h), (fun _ _ h => by omega), Nat.le_refl _, rfl⟩ (fun ρ hρ => ?_) fun i d ρ N hd nx hρ => ?_
   · obtain ⟨as, x6, x7, x8, ga, ca, la, rfl⟩ := hρ
     rw [List.length_map, List.length_zipIdx, List.length_map] at la ca
     obtain ⟨d0, hd0⟩ := Option.isSome_iff_exists.mp hx
     have md := KD.mem hd0
     have pos : 0 < as.length := by
       obtain ⟨r, hr, e1, e2⟩ := tk.rule _ md
       obtain ⟨a, ha, e⟩ := List.mem_iff_getElem.mp hr
       exact List.length_pos_of_mem (ca a r ha (by rw [List.getElem?_eq_getElem ha, e]) e1 e2)
     (repeat infer_instance)
     match j, jm, q with
     | 0, _, q =>
       (repeat infer_instance)
       refine ⟨kvs, .inr rfl, ?_⟩
       (repeat infer_instance)
       exact ⟨x, d0, rfl, hd0, q d0 ((tk.nt _ md).more (by have := tk.len; omega))⟩
     | j + 1, jm, q =>
       (repeat infer_instance)
       refine dr (by rw [List.length_map]; omega) (by rw [List.length_map]; omega) fun k hk => ?_
       rw [List.length_map] at hk
       have hk : k < as.length := by omega
       obtain ⟨gk, nk⟩ := ga as[k] (List.getElem_mem hk)
       have er := ok.each _ (at_get_g gk).2.1
       refine ⟨_, idx_lst (i := k) (by rw [List.getElem?_map, List.getElem?_eq_getElem hk]; rfl), rfl, ?_⟩
       (repeat infer_instance)
       refine ⟨_, idx_g gk, ?_⟩
       (repeat infer_instance)
       refine ⟨by omega, ?_⟩
       rw [nms_enc]
       refine ⟨flats_map (fun _ => rfl) _, ?_⟩
       (repeat infer_instance)
       refine comp_each (α := Int) (β := PyData) (enc := .int) (enc2 := fun d => d) (good := Nt (j + 3)) (fun i hi Py hP => ?_) (by omega) fun bs hb hl => ?_
       · have e1 : (((j + 1 : Nat) : Int) - 1) = ((j : Nat) : Int) := by omega
         (repeat infer_instance)
         refine ⟨DctN kvs, .inr rfl, ?_⟩
         (repeat infer_instance)
         exact ⟨g, kvs, i, j, by rw [← e1]; rfl, ok, tk, nk i hi, by omega, by omega, fun d hd => hP d hd⟩
       · (repeat infer_instance)
         rw [List.map_id']
         exact q (nodeD (as[k] : Nat) bs) ⟨_, bs, rfl, by rw [hl]; exact er.2.2.1, hb⟩
   · obtain ⟨as, x6, x7, x8, ga, ca, la, rfl⟩ := hρ
     rw [List.getElem?_map] at hd
     obtain ⟨⟨y, l⟩, hy, rfl⟩ := Option.map_eq_some_iff.mp hd
     rw [List.getElem?_zipIdx, List.getElem?_map, Option.map_map] at hy
     obtain ⟨r, hr, e⟩ := Option.map_eq_some_iff.mp hy
     obtain ⟨rfl, rfl⟩ : encRg r = y ∧ 0 + i = l := ⟨congrArg Prod.fst e, congrArg Prod.snd e⟩
     rw [Nat.zero_add]
     have hm := List.mem_of_getElem? hr
     have er := ok.each r hm
     have li := (List.getElem?_eq_some_iff.mp hr).1
     have go : ∀ (b : Bool), (b = true → r.n = x ∧ ∀ i ∈ nms r.b, (kvs.at_ i).isSome = true) → (b = false → ¬ (r.n = x ∧ ∀ i ∈ nms r.b, (kvs.at_ i).isSome = true)) → N [some .ob, some (.im (encGz g)), some (.thr (DctN kvs)), some (.im (.int x)), some (.im (.int (j : Nat))), some (.own ((if b = true then as ++ [i] else as).map fun a => .int (a : Nat))), some (.im (.int (i : Nat))), some (.im (.int r.n)), some (.im (.tuple (r.b.map encTh))), none] := fun b h1 h2 => by
       refine nx _ ⟨if b = true then as ++ [i] else as, _, _, _, fun a ha => ?_, fun a r' h3 h4 h5 h6 => ?_, ?_, rfl⟩
       · cases b with
         | false => exact ga a ha
         | true =>
           rcases List.mem_append.mp ha with ha | ha
           · exact ga a ha
           · rw [List.mem_singleton.mp ha]
             have e : g.at_ (i : Nat) = r := by
               unfold GraZ.at_
               rw [Int.toNat_natCast, List.getD_eq_getElem?_getD, hr]; rfl
             rw [e]
             refine ⟨?_, (h1 rfl).2⟩
             unfold thB
             rw [decide_eq_true (show (0 : Int) ≤ (i : Nat) by omega), decide_eq_true (show ((i : Nat) : Int) < (g.rs.length : Nat) by omega)]; rfl
       · by_cases z : a < i
         · have := ca a r' z h4 h5 h6
           cases b with
           | false => exact this
           | true => exact List.mem_append_left _ this
         · have z : a = i := by omega
           subst z
           rw [hr] at h4
           cases h4
           cases b with
           | false => exact absurd ⟨h5, h6⟩ (h2 rfl)
           | true => exact List.mem_append_right _ (by simp)
       · cases b with
         | false => show as.length ≤ i + 1; omega
         | true => show (as ++ [i]).length ≤ i + 1; rw [List.length_append, List.length_singleton]; omega
     refine ⟨by show (true && (flat (encRg r) && true)) = true; rw [flat_rg]; rfl, ?_⟩
     (repeat infer_instance)
     by_cases hxx : r.n = x
     · rw [decide_eq_true hxx]
       (repeat infer_instance)
       refine ⟨by omega, ?_⟩
       rw [nms_enc]
       refine ⟨_, rfl, ?_⟩
       refine comp_of (α := Int) (enc := .int) (e := fun i => .bool (kvs.at_ i).isSome) (fun i hi P hP => ?_) (by omega) ?_
       · refine ⟨kvs, .inr rfl, ?_⟩
         (repeat infer_instance)
         exact hP _ rfl
       refine ⟨(nms r.b).map fun i => (kvs.at_ i).isSome, by rw [List.map_map]; rfl, ?_⟩
       (repeat infer_instance)
       cases ha : ((nms r.b).map fun i => (kvs.at_ i).isSome).all id with
       | false =>
         (repeat infer_instance)
         refine go false (fun z => by cases z) fun _ zz => ?_
         obtain ⟨_, z⟩ := zz
         rw [List.all_eq_false] at ha
         obtain ⟨b, hb, nb⟩ := ha
         obtain ⟨i, hi, rfl⟩ := List.mem_map.mp hb
         exact nb (z i hi)
       | true =>
         (repeat infer_instance)
         refine ⟨by rw [List.length_map]; omega, ?_⟩
         have z := go true (fun _ => ⟨hxx, fun i hi => List.all_eq_true.mp ha _ (List.mem_map.mpr ⟨i, hi, rfl⟩)⟩) fun z => by cases z
         rw [if_pos rfl, List.map_append] at z
         exact z
     · rw [decide_eq_false hxx]
       (repeat infer_instance)
       exact go false (fun z => by cases z) fun _ ⟨z, _⟩ => hxx z
theorem d_law_tree (B : Blt mg) (d_law_draw : DDraw P w K mg base) (d_law_inner : Def3 P w K mg base 1 "_law_inner" ["_law_body"] (spO K (fun _ => True) 1 namesInF)) (T : Top3 K mg "_law_tree" sTreeL) : Def3 P w K mg base 6 "_law_tree" ["_law_deal_here", "_law_grammar_here", "_law_trees", "_law_name", "_law_deep"] (spG K IsDeal 5 (treeRF 5)) := rd_law_tree B d_law_draw d_law_inner T 5
end
section
variable {P : Program} {w : World} {K : PySem.W.Frag} {mg : Str → Option Value} {base : Heap} {k : Nat}
abbrev sBentL : Stmt := top 22
theorem scBentL : FnScope ["_law_deal_here", "_law_grammar_here", "_law_tree_here", "_law_at", "_law_kids", "_law_place", "_law_way"] ["_law_deal_here", "_law_grammar_here", "_law_tree_here"] (defScope sBentL) := ⟨rfl, rfl, rfl, by decide +kernel, rfl, by decide +kernel, by decide +kernel⟩
theorem rd_law_bent (B : Blt mg) (d_law_draw : DDraw P w K mg base) (T : Top3 K mg "_law_bent" sBentL) : ∀ m, Def3 P w K mg base (1 + m) "_law_bent" ["_law_deal_here", "_law_grammar_here", "_law_tree_here"] (spD K IsDeal 2 (bentRF m))
 | 0 => by
   obtain ⟨f, fd, Fu, m⟩ := T.ex
   refine ⟨f, fd, Fu.ok scBentL (spD_len rfl) (fun cdv A outer s H vs Q E hr h => ?_), m, Fu.kp, Fu.binds (fun _ _ _ _ _ _ us hl => len3 hl fun _ _ _ => rfl)⟩
   obtain ⟨O, ds, ws, Qr, ok, hφ, p, hl, rfl, is, q, kk⟩ := h
   exact (bentRF_zero q).elim
 | m + 1 => by
   have d_law_bent := rd_law_bent B d_law_draw T m
   refine mk_D (k := 1 + m) T scBentL (fun _ _ _ _ _ _ us hl => len3 hl fun _ _ _ => rfl) rfl fun f cdv A outer s H E O hφ C => (have hO : ∀ j : Unit, IsDeal ((fun _ : Unit => O) j) := fun _ => hφ; ⟨_, (ss_cons (s_unpT (h := 1000) C (e_var 2) (gq_cons 3 (gq_cons 4 gq_nil))) (ss_cons (s_if (t_w (w_and (t_gt (e_len C B (a_cons (e_var 4) a_nil)) e_int) (w_and1 (t_gt (e_callO 0 C d_law_draw (hk := Nat.le_trans (by decide) (Nat.le_add_right 1 m)) hO (a_cons e_int a_nil)) e_int)))) (ss_cons (s_set 5 (e_callO 0 C d_law_draw (hk := Nat.le_trans (by decide) (Nat.le_add_right 1 m)) hO (a_cons (e_len C B (a_cons (e_var 4) a_nil)) a_nil))) (ss_one (s_ret (e_tup (a_cons (e_var 3) (a_cons (e_add C (e_add C (e_slice C (e_var 4) o_none (o_some (e_var 5))) (e_tup (a_cons (e_callO 0 C d_law_bent (hk := Nat.le_refl _) hO (a_cons (e_var 1) (a_cons (e_idx C (e_var 4) (e_var 5)) a_nil))) a_nil))) (e_slice C (e_var 4) (o_some (e_add C (e_var 5) e_int)) o_none)) a_nil)))))) ss_nil) (ss_cons (s_set 6 (e_callO 0 C d_law_draw (hk := Nat.le_trans (by decide) (Nat.le_add_right 1 m)) hO (a_cons e_int a_nil))) (ss_cons (s_if (t_lt (e_var 6) e_int) (ss_one (s_ret (e_tup (a_cons (e_sub (e_callO 0 C d_law_draw (hk := Nat.le_trans (by decide) (Nat.le_add_right 1 m)) hO (a_cons (e_add C (e_len C B (a_cons (e_idx C (e_var 1) e_int) a_nil)) e_int) a_nil)) e_int) (a_cons (e_var 4) a_nil))))) ss_nil) (ss_cons (s_if (t_eq C (e_var 6) e_int) (ss_one (s_ret (e_tup (a_cons (e_var 3) (a_cons (e_slice C (e_var 4) (o_some e_int) o_none) a_nil))))) ss_nil) (ss_cons (s_if (t_eq C (e_var 6) e_int) (ss_one (s_ret (e_tup (a_cons (e_var 3) (a_cons (e_add C (e_var 4) (e_slice C (e_var 4) o_none (o_some e_int))) a_nil))))) ss_nil) (ss_cons (s_if (t_eq C (e_var 6) e_int) (ss_one (s_ret (e_tup (a_cons (e_var 3) (a_cons (e_tuprev C B (e_var 4)) a_nil))))) ss_nil) (ss_one (s_ret (e_idx C (e_lst (a_cons (e_tup a_nil) (a_cons (e_tup (a_cons (e_var 3) a_nil)) (a_cons (e_tup (a_cons (e_var 3) (a_cons (e_var 4) (a_cons e_int a_nil)))) (a_cons (e_tup (a_cons (e_tup a_nil) (a_cons (e_var 4) a_nil))) (a_cons (e_tup (a_cons (e_var 3) (a_cons (e_var 3) a_nil))) (a_cons (e_var 4) a_nil))))))) (e_callO 0 C d_law_draw (hk := Nat.le_trans (by decide) (Nat.le_add_right 1 m)) hO (a_cons e_int a_nil)))))))))))), fun ds Qr hn q => ?_⟩)
   obtain ⟨g, d, rfl, ok, nt, q⟩ := q
   obtain ⟨a, ks, rfl, l2, hks⟩ := nt
   have many := ok.many
   have fl : ∀ k ∈ ks, flat k = true := fun k hk => (hks k hk).lk.flat
   have nd : ∀ (b : Int) (js : List PyData), js.length ≤ 3 → (∀ j ∈ js, j ∈ ks) → Qr (.o (nodeD b js)) := fun b js h1 h2 => q _ (.inl ⟨b, js, rfl, h1, fun j hj => (hks j (h2 j hj)).lk⟩)
   have od : ∀ d, Odd d → flat d = true → Qr (.o d) := fun d h1 h2 => q _ (.inr ⟨h1, h2⟩)
   have tail : ∀ (x5 x6 : Option DV), (seqD (asgS 6 (calO 0 1 drawF (aCons (cD (PyData.int 6)) aNil))) (seqD (ifS (bD (opDE (fn2 (intF fun i j => PyData.bool (decide (i < j)))) (vD 6) (cD (PyData.int 2)))) (retS (tupD (aCons (opDE (fn2 (intF fun i j => PyData.int (i - j))) (calO 0 1 drawF (aCons (opDE (fn2 addF) (callDE (fn1 lenF) (aCons (opDE (fn2 idxF) (vD 1) (cD (PyData.int 1))) aNil)) (cD (PyData.int 2))) aNil)) (cD (PyData.int 1))) (aCons (vD 4) aNil)))) fun Dd ρ => Dd.nx ρ) (seqD (ifS (bD (opDE (fn2 (eqF false)) (vD 6) (cD (PyData.int 2)))) (retS (tupD (aCons (vD 3) (aCons (slD (vD 4) (someO (cD (PyData.int 1))) noO) aNil)))) fun Dd ρ => Dd.nx ρ) (seqD (ifS (bD (opDE (fn2 (eqF false)) (vD 6) (cD (PyData.int 3)))) (retS (tupD (aCons (vD 3) (aCons (opDE (fn2 addF) (vD 4) (slD (vD 4) noO (someO (cD (PyData.int 1))))) aNil)))) fun Dd ρ => Dd.nx ρ) (seqD (ifS (bD (opDE (fn2 (eqF false)) (vD 6) (cD (PyData.int 4)))) (retS (tupD (aCons (vD 3) (aCons (trvD (vD 4)) aNil)))) fun Dd ρ => Dd.nx ρ) (retS (opDE (fn2 idxF) (lstD (aCons (tupD aNil) (aCons (tupD (aCons (vD 3) aNil)) (aCons (tupD (aCons (vD 3) (aCons (vD 4) (aCons (cD (PyData.int 0)) aNil)))) (aCons (tupD (aCons (tupD aNil) (aCons (vD 4) aNil))) (aCons (tupD (aCons (vD 3) (aCons (vD 3) aNil))) (aCons (vD 4) aNil))))))) (calO 0 1 drawF (aCons (cD (PyData.int 6)) aNil))))))))) { nx := fun x => Qr (R.o PyData.none), rt := Qr } [some .ob, some (.im (encGz g)), some (.im (nodeD a ks)), some (.im (.int a)), some (.im (.tuple ks)), x5, x6] := by
     intro x5 x6
     (repeat infer_instance)
     refine dr (by decide) (by decide) fun k6 hk6 => ?_
     (repeat infer_instance)
     have two : ∀ v : Nat, (0 < (((g.rs.map encRg).length : Nat) : Int) + 2 ∧ (((g.rs.map encRg).length : Nat) : Int) + 2 < 1073741824) := fun _ => by rw [List.length_map]; omega
     match k6, hk6 with
     | 0, _ =>
       (repeat infer_instance)
       refine ⟨(two 0).1, (two 0).2, fun k h0 h1 => ?_⟩
       (repeat infer_instance)
       exact nd _ ks (by omega) fun j h => h
     | 1, _ =>
       (repeat infer_instance)
       refine ⟨(two 0).1, (two 0).2, fun k h0 h1 => ?_⟩
       (repeat infer_instance)
       exact nd _ ks (by omega) fun j h => h
     | 2, _ =>
       match ks, l2, nd with
       | [], _, nd => (repeat infer_instance); exact nd a [] (by simp) (by simp)
       | [k1], _, nd => (repeat infer_instance); exact nd a [] (by simp) (by simp)
       | [k1, k2], _, nd => (repeat infer_instance); exact nd a [k2] (by simp) (by simp)
     | 3, _ =>
       match ks, l2, nd with
       | [], _, nd => (repeat infer_instance); exact nd a [] (by simp) (by simp)
       | [k1], _, nd => (repeat infer_instance); exact nd a [k1, k1] (by simp) (by simp)
       | [k1, k2], _, nd => (repeat infer_instance); exact nd a [k1, k2, k1] (by simp) (by simp)
     | 4, _ =>
       (repeat infer_instance)
       exact nd a ks.reverse (by rw [List.length_reverse]; omega) fun j h => List.mem_reverse.mp h
     | 5, _ =>
       (repeat infer_instance)
       refine dr (by decide) (by decide) fun k7 hk7 => ?_
       have fk : flats ks = true := flats_all fl
       match k7, hk7 with
       | 0, _ => (repeat infer_instance); exact od _ .nil rfl
       | 1, _ => (repeat infer_instance); exact od _ .one rfl
       | 2, _ => (repeat infer_instance); exact od _ .three (by show (true && (flats ks && (true && true))) = true; rw [fk]; rfl)
       | 3, _ => (repeat infer_instance); exact od _ .tup (by show (true && (flats ks && true)) = true; rw [fk]; rfl)
       | 4, _ => (repeat infer_instance); exact od _ .num rfl
       | 5, _ =>
         match ks, l2, hks, od, fk with
         | [], _, _, od, fk => (repeat infer_instance); exact od _ .nil rfl
         | [k1], _, _, od, fk => (repeat infer_instance); exact od _ .one fk
         | [k1, k2], _, hks, od, fk => (repeat infer_instance); exact od _ (hks k1 (by simp)).odd fk
   (repeat infer_instance)
   refine ⟨by show (true && (flats ks && true)) = true; rw [flats_all fl]; rfl, ?_⟩
   (repeat infer_instance)
   match ks, l2, hks, tail with
   | [], _, _, tail => exact tail none none
   | [k1], _, hks, tail =>
     (repeat infer_instance)
     refine dr (by decide) (by decide) fun k3 hk3 => ?_
     match k3, hk3 with
     | 0, _ =>
       refine ⟨_, rfl, _, rfl, ?_⟩
       exact tail none none
     | k3 + 1, _ =>
       (repeat infer_instance)
       refine iteB (fun _ => ?_) fun z => ?_
       · (repeat infer_instance)
         refine dr (by simp) (by simp) fun k4 hk4 => ?_
         match k4, hk4 with
         | 0, _ =>
           (repeat infer_instance)
           refine ⟨ok, hks k1 (by simp), fun d' ld => ?_⟩
           (repeat infer_instance)
           exact q _ (.inl ⟨a, [d'], rfl, by simp, fun k hk => by rw [List.mem_singleton.mp hk]; exact ld⟩)
       · exact absurd z (by simp)
   | [k1, k2], _, hks, tail =>
     (repeat infer_instance)
     refine dr (by decide) (by decide) fun k3 hk3 => ?_
     match k3, hk3 with
     | 0, _ =>
       refine ⟨_, rfl, _, rfl, ?_⟩
       exact tail none none
     | k3 + 1, _ =>
       (repeat infer_instance)
       refine iteB (fun _ => ?_) fun z => ?_
       · (repeat infer_instance)
         refine dr (by simp) (by simp) fun k4 hk4 => ?_
         match k4, hk4 with
         | 0, _ =>
           (repeat infer_instance)
           refine ⟨ok, hks k1 (by simp), fun d' ld => ?_⟩
           (repeat infer_instance)
           exact q _ (.inl ⟨a, [d', k2], rfl, by simp, fun k hk => by rcases List.mem_cons.mp hk with rfl | hk; exact ld; rw [List.mem_singleton.mp hk]; exact (hks k2 (by simp)).lk⟩)
         | 1, _ =>
           (repeat infer_instance)
           refine ⟨ok, hks k2 (by simp), fun d' ld => ?_⟩
           (repeat infer_instance)
           exact q _ (.inl ⟨a, [k1, d'], rfl, by simp, fun k hk => by rcases List.mem_cons.mp hk with rfl | hk; exact (hks _ (by simp)).lk; rw [List.mem_singleton.mp hk]; exact ld⟩)
       · exact absurd z (by simp)
theorem d_law_bent (B : Blt mg) (d_law_draw : DDraw P w K mg base) (T : Top3 K mg "_law_bent" sBentL) : Def3 P w K mg base 11 "_law_bent" ["_law_deal_here", "_law_grammar_here", "_law_tree_here"] (spD K IsDeal 2 (bentRF 10)) := rd_law_bent B d_law_draw T 10
end
section
variable {P : Program} {w : World} {K : PySem.W.Frag} {mg : Str → Option Value} {base : Heap} {k : Nat}
abbrev sRightL : Stmt := top 23
theorem scRightL : FnScope ["_law_grammar_here", "_law_name", "_law_tree_here", "_law_due"] ["_law_grammar_here", "_law_name", "_law_tree_here"] (defScope sRightL) := ⟨rfl, rfl, rfl, by decide +kernel, rfl, by decide +kernel, by decide +kernel⟩
theorem d_law_right (B : Blt mg) (d_is_tree : Def3 P w K mg base 3 "is_tree" ["grammar", "name", "tree"] (spO K (fun _ => True) 3 isTreeF)) (d_word_of : Def3 P w K mg base 2 "word_of" ["grammar", "tree"] (spO K (fun _ => True) 2 wordTF)) (d_size_of : Def3 P w K mg base 1 "size_of" ["tree"] (spO K (fun _ => True) 1 sizeOfF)) (d_law_is_tree : Def3 P w K mg base 11 "_law_is_tree" ["_law_grammar_here", "_law_name", "_law_tree_here"] (spO K (fun _ => True) 3 (isTreeRF 10))) (d_law_word_of : Def3 P w K mg base 11 "_law_word_of" ["_law_grammar_here", "_law_tree_here"] (spO K (fun _ => True) 2 (wordRF 10))) (d_law_size : Def3 P w K mg base 11 "_law_size" ["_law_tree_here"] (spO K (fun _ => True) 1 (sizeRF 10))) (T : Top3 K mg "_law_right" sRightL) : Def3 P w K mg base 12 "_law_right" ["_law_grammar_here", "_law_name", "_law_tree_here"] (spO K (fun _ => True) 3 rightTF) := by
 refine mk_O T scRightL (fun _ _ _ _ _ _ us hl => len3 hl fun _ _ _ => rfl) rfl fun f cdv A outer s H E O hφ C => ⟨_, (ss_cons (s_set 3 (e_call C d_law_is_tree (fun _ => trivial) (a_cons (e_var 0) (a_cons (e_var 1) (a_cons (e_var 2) a_nil))))) (ss_cons (s_if (t_ne C (e_repr C B (a_cons (e_call C d_is_tree (fun _ => trivial) (a_cons (e_var 0) (a_cons (e_var 1) (a_cons (e_var 2) a_nil)))) a_nil)) (e_repr C B (a_cons (e_var 3) a_nil))) (ss_one (s_ret e_bl)) ss_nil) (ss_cons (s_if (t_not (t_tru C (e_var 3))) (ss_one (s_ret e_bl)) ss_nil) (ss_one (s_ret (e_and (e_eq C (e_call C d_word_of (fun _ => trivial) (a_cons (e_var 0) (a_cons (e_var 2) a_nil))) (e_call C d_law_word_of (fun _ => trivial) (a_cons (e_var 0) (a_cons (e_var 2) a_nil)))) (e_one (e_eq C (e_repr C B (a_cons (e_call C d_size_of (fun _ => trivial) (a_cons (e_var 2) a_nil)) a_nil)) (e_repr C B (a_cons (e_call C d_law_size (fun _ => trivial) (a_cons (e_var 2) a_nil)) a_nil)))))))))), fun ds Qr hn q => ?_⟩
 obtain ⟨g, x, d, rfl, ok, lk, q⟩ := q
 obtain ⟨y, ey, oy⟩ := repr_bool (g.isT 10 x d)
 (repeat infer_instance)
 refine ⟨ok, lk, rfl, ?_⟩
 (repeat infer_instance)
 refine ⟨g, x, d, 10, rfl, ok, Nat.le_refl _, lk, ?_⟩
 refine ⟨_, ey, _, _, rfl, rfl, _, ey, _, eq_self oy, _, rfl, ?_⟩
 (repeat infer_instance)
 rw [show g.isT 10 x (R.o d).d = g.isT 10 x d from rfl]
 cases hb : g.isT 10 x d with
 | false =>
   (repeat infer_instance)
   exact q
 | true =>
   have gd := gd_of lk hb
   have c0 := cntT_le lk
   have c1 : (4 : Nat) ^ 10 = 1048576 := by decide
   obtain ⟨z, ez, oz⟩ := (nice_int9 (i := (cntT 10 d : Nat)) (by omega) (by omega)).repr
   (repeat infer_instance)
   refine ⟨g, d, 10, rfl, ok, Nat.le_refl _, gd, ?_⟩
   (repeat infer_instance)
   refine ⟨ok, Nat.le_refl _, gd, _, eq_self ?_, ?_⟩
   · exact (nice_txt (word_low ok gd) (Nat.le_refl _)).lay
   (repeat infer_instance)
   refine ⟨g, d, 10, rfl, Nat.le_refl _, gd, ?_⟩
   refine ⟨_, ez, _, _, rfl, rfl, rfl, g, d, rfl, Nat.le_refl _, gd, _, ez, _, eq_self oz, q⟩
end
section
variable {P : Program} {w : World} {K : PySem.W.Frag} {mg : Str → Option Value} {base : Heap} {k : Nat}
abbrev sLaw : Stmt := top 24
theorem scLaw : FnScope ["_law_script", "_law_deal_here", "_law_grammar_here", "_law_trees", "_law_asked", "_law_k", "_law_name", "_law_tree_here", "_law_bent_here"] ["_law_script"] (defScope sLaw) := ⟨rfl, rfl, rfl, by decide +kernel, rfl, by decide +kernel, by decide +kernel⟩
theorem law_ok (B : Blt mg) (d_law_deal : Def3 P w K mg base 1 "_law_deal" ["_law_script", "_law_base"] (spDeal K)) (d_law_draw : DDraw P w K mg base) (d_law_letters : Def3 P w K mg base 2 "_law_letters" ["_law_deal_here"] (spD K IsDeal 0 letters2F)) (d_law_grammar : Def3 P w K mg base 2 "_law_grammar" ["_law_deal_here", "_law_letters_here"] (spD K IsDeal 1 (grammarF 7))) (d_law_least_trees : Def3 P w K mg base 2 "_law_least_trees" ["_law_grammar_here"] (spK K (fun _ => True) 1 leastTF)) (d_law_tree : Def3 P w K mg base 6 "_law_tree" ["_law_deal_here", "_law_grammar_here", "_law_trees", "_law_name", "_law_deep"] (spG K IsDeal 5 (treeRF 5))) (d_law_bent : Def3 P w K mg base 11 "_law_bent" ["_law_deal_here", "_law_grammar_here", "_law_tree_here"] (spD K IsDeal 2 (bentRF 10))) (d_law_right : Def3 P w K mg base 12 "_law_right" ["_law_grammar_here", "_law_name", "_law_tree_here"] (spO K (fun _ => True) 3 rightTF)) {f₁ : Addr} {fd₁ : FuncData} (Fu : Fun K "law" "law" sLaw f₁ fd₁) : FnOk P w K mg base CX0 13 f₁ fd₁ ["_law_script"] (spLaw K) := by
 refine mk_law5 (k := 12) Fu scLaw rfl (fun f cdv A outer s H E C => ?_) (fun f cdv A outer s H E C => ?_)
 · obtain ⟨fP, fdP, G, mP, kpP, bnP⟩ := d_law_deal.ex
   exact ps_set (i := 1) (of_decide_eq_true (by kernel_rfl)) rfl (by first | exact Or.inl rfl | exact Or.inr rfl) (pe_call (k := 12) (G.mono (by decide)) (C.room ()) rfl mP kpP bnP .nil pass0 (pa_cons (pe_var (i := 0) rfl (by first | exact Or.inl rfl | exact Or.inr (Or.inl rfl) | exact Or.inr (Or.inr rfl))) (pa_cons pe_int pa_nil)))
 · have hO : ∀ j : Addr × Addr, IsDeal ((fun j : Addr × Addr => dealOb j.1 j.2) j) := fun j => dealOb_is _ _
   refine ⟨_, (ss_cons (s_set 2 (e_callO 1 C d_law_grammar hO (a_cons (e_callO 1 C d_law_letters hO a_nil) a_nil))) (ss_cons (s_setK 3 C d_law_least_trees (fun _ => trivial) (a_cons (e_var 2) a_nil)) (ss_cons (s_set 4 (e_lst (a_cons (e_tup (a_cons e_int (a_cons (e_tup (a_cons e_int (a_cons (e_tup a_nil) a_nil))) a_nil))) (a_cons (e_tup (a_cons e_int (a_cons (e_tup a_nil) a_nil))) a_nil)))) (ss_cons (s_for C (j_new (i_r1 C B (a_cons (e_mulU C e_int (e_intc C B (a_cons (e_gt (e_lenDN 3 C B) e_int) a_nil))) a_nil))) (g_name (h := 1000) 5) (ss_cons (s_set 6 (e_idx C (e_srtDN 3 C B) (e_callO 1 C d_law_draw hO (a_cons (e_lenDN 3 C B) a_nil)))) (ss_cons (s_set 7 (e_callG C d_law_tree hO (g_ob 1 (g_im (e_var 2) (g_thg 3 (g_im (e_var 6) (g_im (e_callO 1 C d_law_draw hO (a_cons e_int a_nil)) g_nil))))))) (ss_cons (s_set 8 (e_callO 1 C d_law_bent hO (a_cons (e_var 2) (a_cons (e_var 7) a_nil)))) (ss_one (s_ext 4 C (e_lst (a_cons (e_tup (a_cons (e_var 6) (a_cons (e_var 7) a_nil))) (a_cons (e_tup (a_cons (e_var 6) (a_cons (e_var 8) a_nil))) (a_cons (e_tup (a_cons (e_callO 1 C d_law_draw hO (a_cons (e_idx C (e_var 2) e_int) a_nil)) (a_cons (e_var 8) a_nil))) a_nil)))))))))) (ss_one (s_ret (e_all C B (a_cons (e_comp 2 ["_law_name", "_law_tree_here", "_law_script", "_law_deal_here", "_law_grammar_here", "_law_trees", "_law_asked", "_law_k", "._law_name", "._law_tree_here", "_law_bent_here"] C (fun _ => .of rfl (by kernel_rfl)) (i_list C (e_add C (e_var 4) (e_slice C (e_var 4) o_none (o_some e_int)))) (g_tup (C.comp _ _) (gq_cons 0 (gq_cons 1 gq_nil))) f_nil (e_call (C.comp _ _) d_law_right (fun _ => trivial) (a_cons (e_var 4) (a_cons (e_var 0) (a_cons (e_var 1) a_nil))))) a_nil)))))))), ?_⟩
   have sz := sizeLine_eq
   (repeat infer_instance)
   intro w w1 w3 wl _
   (repeat infer_instance)
   refine ⟨w1, by omega, wl, fun g g1 g3 gr hg => ⟨flat_gz g, ?_⟩⟩
   have ok : GTOk g := ⟨g1, g3, by omega, fun r hr => by
     obtain ⟨a1, a2, a3, a4, a5⟩ := hg r hr
     refine ⟨⟨a1, a2⟩, a3, by unfold nms; rw [List.length_map]; exact a4, fun t ht => ?_⟩
     have := a5 t ht
     cases t with
     | nm i => exact ⟨this.1, by have := this.2; omega⟩
     | lt v => obtain ⟨c, hc, rfl⟩ := this; exact ⟨c, wl c hc, rfl⟩⟩
   (repeat infer_instance)
   refine ⟨ok, fun kvs tk => ?_⟩
   (repeat infer_instance)
   refine ⟨kvs, .inl rfl, ?_⟩
   obtain ⟨v, hv, v1, v0⟩ : ∃ v : Nat, (if decide (0 < ((kvs.length : Nat) : Int)) = true then (1 : Int) else 0) = (v : Nat) ∧ v ≤ 1 ∧ (0 < v → 0 < kvs.length) := by
     by_cases h : 0 < kvs.length
     · exact ⟨1, by rw [if_pos (decide_eq_true (by omega))]; rfl, Nat.le_refl _, fun _ => h⟩
     · exact ⟨0, by rw [if_neg fun z => h (by have := of_decide_eq_true z; omega)]; rfl, by omega, fun z => by omega⟩
   (repeat infer_instance)
   rw [hv]
   refine ⟨by omega, by omega, ?_, ?_⟩
   · exact .inl ⟨by decide, by decide⟩
   (repeat infer_instance)
   refine ⟨by omega, by omega, rfl, ?_⟩
   refine forGo_rev (fun j ρ => ∃ (ls : List (Int × PyData)) (x5 x6 x7 x8 : Option DV), (∀ p ∈ ls, Lk 10 p.2) ∧ ls.length = 2 + 3 * j ∧ ρ = [none, some .ob, some (.im (encGz g)), some (.thg (DctN kvs)), some (.own (ls.map pD)), x5, x6, x7, x8]) ⟨[(0, nodeD 0 []), (0, .tuple [])], none, none, none, none, fun p hp => ?_, rfl, rfl⟩ (fun ρ hρ => ?_) fun j d ρ N hd nx hρ => ?_
   · rcases List.mem_cons.mp hp with rfl | hp
     · exact .inl ⟨0, [], rfl, by simp, fun k hk => by cases hk⟩
     · rw [List.mem_singleton.mp hp]; exact .inr ⟨.nil, rfl⟩
   · obtain ⟨ls, x5, x6, x7, x8, hl, ll, rfl⟩ := hρ
     rw [numsD_len] at ll
     (repeat infer_instance)
     have ct : cutL (ls.map pD) none (some 4) = (ls.take 4).map pD := by rw [cutL_map]; exact congrArg _ (cut_to ls 4)
     rw [ct]
     refine ⟨_, add_lst (by rw [List.length_map, List.length_map, List.length_take]; omega), ?_⟩
     rw [← List.map_append]
     refine ⟨_, rfl, ?_⟩
     refine comp_ofG (α := Int × PyData) (enc := pD) (e := fun _ => .bool true) (fun p hp P hP => ?_) gT_mono (by rw [List.length_append, List.length_take]; omega) ?_
     · have lp : Lk 10 p.2 := by
         rcases List.mem_append.mp hp with z | z
         · exact hl p z
         · exact hl p (List.mem_of_mem_take z)
       have fp : flats [PyData.int p.1, p.2] = true := by show (true && (flat p.2 && true)) = true; rw [lp.flat]; rfl
       (repeat infer_instance)
       exact ⟨ok, lp, hP _ rfl⟩
     · refine ⟨(ls ++ ls.take 4).map fun _ => true, by rw [List.map_map]; rfl, ?_⟩
       rw [if_neg Bool.false_ne_true, show ((ls ++ ls.take 4).map fun _ => true).all id = true from List.all_eq_true.mpr fun b hb => by obtain ⟨_, _, rfl⟩ := List.mem_map.mp hb; rfl]
   · obtain ⟨ls, x5, x6, x7, x8, hl, ll, rfl⟩ := hρ
     obtain ⟨hj, rfl⟩ := numsD_get hd
     have k0 : 0 < kvs.length := v0 (by omega)
     have k3 := tk.len
     refine ⟨rfl, ?_⟩
     (repeat infer_instance)
     refine ⟨kvs, .inl rfl, by omega, fun zs pz => ?_⟩
     (repeat infer_instance)
     refine ⟨kvs, .inl rfl, ?_⟩
     (repeat infer_instance)
     refine dr (by omega) (by omega) fun k4 hk4 => ?_
     have zl : zs.length = kvs.length := by rw [pz.length_eq, List.length_map]
     have hk : k4 < zs.length := by omega
     obtain ⟨p, hp, ep⟩ := List.mem_map.mp (pz.mem_iff.mp (List.getElem_mem hk))
     have hx : (kvs.at_ zs[k4]).isSome = true := by rw [← ep]; exact KD.some_of hp
     refine ⟨_, idx_lst (i := k4) (by rw [List.getElem?_map, List.getElem?_eq_getElem hk]; rfl), rfl, ?_⟩
     generalize zs[k4] = x at hx
     (repeat infer_instance)
     refine ⟨DctN kvs, .inl rfl, ?_⟩
     (repeat infer_instance)
     refine dr (by decide) (by decide) fun k5 hk5 => ?_
     refine ⟨rfl, g, kvs, x, k5, rfl, ok, tk, hx, by omega, Nat.le_refl _, fun d nt => ⟨nt.lk.flat, ?_⟩⟩
     have nt10 : Nt 10 d := nt.more (by omega)
     (repeat infer_instance)
     refine ⟨ok, nt10, fun d' ld => ⟨ld.flat, ?_⟩⟩
     (repeat infer_instance)
     refine ⟨by omega, by omega, fun k h0 h1 => ?_⟩
     (repeat infer_instance)
     have fl : ∀ (y : Int) (e : PyData), flat e = true → flat (pD (y, e)) = true := fun y e h => by show (true && (flat e && true)) = true; rw [h]; rfl
     refine ⟨flats_all fun z hz => ?_, by rw [List.length_map, ll]; show 2 + 3 * j + 3 ≤ _; omega, ?_⟩
     · have hz : z ∈ [pD (x, d), pD (x, d'), pD (k, d')] := hz
       have hz : z = pD (x, d) ∨ z = pD (x, d') ∨ z = pD (k, d') := by simpa using hz
       rcases hz with rfl | rfl | rfl
       · exact fl _ _ nt.lk.flat
       · exact fl _ _ ld.flat
       · exact fl _ _ ld.flat
     · have em : (ls ++ [(x, d), (x, d'), (k, d')]).map pD = ls.map pD ++ [pD (x, d), pD (x, d'), pD (k, d')] := List.map_append
       refine nx _ ⟨ls ++ [(x, d), (x, d'), (k, d')], _, _, _, _, fun p hp => ?_, ?_, by rw [em]; rfl⟩
       · rcases List.mem_append.mp hp with hp | hp
         · exact hl p hp
         · have hp : p = (x, d) ∨ p = (x, d') ∨ p = (k, d') := by simpa using hp
           rcases hp with rfl | rfl | rfl
           · exact nt10.lk
           · exact ld
           · exact ld
       · rw [List.length_append, ll]; show 2 + 3 * j + 3 = _; omega
end
end L50
namespace L50
open PySem PySem.Spec
open PyProof.Rows hiding St
open L2 L3
def DIn (K : PySem.W.Frag) (x : Str) (st : Stmt) : Prop := ∃ (f : Addr) (od an : Option Addr) (sl : Array (Option Value)) (oc kV dc pm cd ct : Value), PySem.W.nsIn K mainGlobals x = some (some (.ref f)) ∧ K.lookup f = some ⟨oc, od, .func (PySem.W.fnOf x x (defArgs st) (defBody st) (defScope st) .none kV dc pm an cd ct), sl⟩ ∧ PySem.W.codeIn K cd x = true ∧ PySem.W.keepIn K (.ref f) = true
theorem din_mk {K : PySem.W.Frag} {x : Str} {st : Stmt} {f : Addr} {od an : Option Addr} {sl : Array (Option Value)} {oc kV dc pm cd ct : Value} (a : PySem.W.nsIn K mainGlobals x = some (some (.ref f))) (l : K.lookup f = some ⟨oc, od, .func (PySem.W.fnOf x x (defArgs st) (defBody st) (defScope st) .none kV dc pm an cd ct), sl⟩) (c : PySem.W.codeIn K cd x = true) (k : PySem.W.keepIn K (.ref f) = true) : DIn K x st := ⟨f, od, an, sl, oc, kV, dc, pm, cd, ct, a, l, c, k⟩
theorem din_top {K : PySem.W.Frag} {x : Str} {st : Stmt} {h : Heap} {mg : Str → Option Value} (X : K.In h) (G : h.Ns mainGlobals mg) (D : DIn K x st) : Top3 K mg x st := by obtain ⟨f, _, _, _, _, _, _, _, _, _, a, l, c, k⟩ := D; exact ⟨f, _, fun_mk (st := st) l c k, PySem.W.mg_of X G a⟩
theorem all_mk {l : PySem.W.OpenLaw} {w : World} {K : PySem.W.Frag} {h : Heap} {mg : Str → Option Value} {fa : Addr} (X : K.In h) (G : h.Ns mainGlobals mg) (hfa : mg "law" = some (.ref fa))
   (D1 : DIn K "is_there" sIsThere)
   (D2 : DIn K "names_in" sNamesIn)
   (D3 : DIn K "is_pair" sIsPair)
   (D4 : DIn K "is_of_name" sIsOfName)
   (D5 : DIn K "is_tree" sIsTree)
   (D6 : DIn K "parts_of" sPartsOf)
   (D7 : DIn K "word_of" sWordOf)
   (D8 : DIn K "size_of" sSizeOf)
   (D9 : DIn K "_law_deal" sDeal)
   (D10 : DIn K "_law_draw" sDraw)
   (D11 : DIn K "_law_whole" sWholeL)
   (D12 : DIn K "_law_letters" sLetters)
   (D13 : DIn K "_law_grammar" sGrammarL)
   (D14 : DIn K "_law_inner" sInnerL)
   (D15 : DIn K "_law_is_tree" sIsTreeL)
   (D16 : DIn K "_law_word_of" sWordOfL)
   (D17 : DIn K "_law_size" sSizeL)
   (D18 : DIn K "_law_least_trees" sLeastTreesL)
   (D19 : DIn K "_law_tree" sTreeL)
   (D20 : DIn K "_law_bent" sBentL)
   (D21 : DIn K "_law_right" sRightL)
   (D22 : DIn K "law" sLaw)
   (z1 : PySem.W.nsIn K mainGlobals "len" = some none)
   (z2 : PySem.W.nsIn K mainGlobals "all" = some none)
   (z3 : PySem.W.nsIn K mainGlobals "any" = some none)
   (z4 : PySem.W.nsIn K mainGlobals "sorted" = some none)
   (z5 : PySem.W.nsIn K mainGlobals "min" = some none)
   (z6 : PySem.W.nsIn K mainGlobals "max" = some none)
   (z7 : PySem.W.nsIn K mainGlobals "repr" = some none)
   (z8 : PySem.W.nsIn K mainGlobals "int" = some none)
   (z9 : PySem.W.nsIn K mainGlobals "list" = some none)
   (z10 : PySem.W.nsIn K mainGlobals "tuple" = some none)
   (z11 : PySem.W.nsIn K mainGlobals "range" = some none)
   (z12 : PySem.W.nsIn K mainGlobals "set" = some none)
   (z13 : PySem.W.nsIn K mainGlobals "isinstance" = some none)
   (z14 : PySem.W.nsIn K mainGlobals "enumerate" = some none)
   (z15 : PySem.W.nsIn K mainGlobals "zip" = some none)
   (z16 : PySem.W.nsIn K mainGlobals "reversed" = some none)
   (z17 : PySem.W.nsIn K mainGlobals "str" = some none)
   (z18 : PySem.W.nsIn K mainGlobals "sum" = some none)
   (z19 : PySem.W.nsIn K mainGlobals "dict" = some none)
   (z20 : PySem.W.nsIn K mainGlobals "bool" = some none)
   : ∃ fd : FuncData, (∀ (s : Shared) (v : Value), BindsTo s fd ⟨[v], []⟩ [("_law_script", v)]) ∧ ∀ base : Heap, K.In base → base.Ns mainGlobals mg → FnOk l.prog w K mg base CX0 13 fa fd ["_law_script"] (spLaw K) := by
 have T1 := din_top X G D1
 have T2 := din_top X G D2
 have T3 := din_top X G D3
 have T4 := din_top X G D4
 have T5 := din_top X G D5
 have T6 := din_top X G D6
 have T7 := din_top X G D7
 have T8 := din_top X G D8
 have T9 := din_top X G D9
 have T10 := din_top X G D10
 have T11 := din_top X G D11
 have T12 := din_top X G D12
 have T13 := din_top X G D13
 have T14 := din_top X G D14
 have T15 := din_top X G D15
 have T16 := din_top X G D16
 have T17 := din_top X G D17
 have T18 := din_top X G D18
 have T19 := din_top X G D19
 have T20 := din_top X G D20
 have T21 := din_top X G D21
 have T22 := din_top X G D22
 have B : Blt mg := ⟨PySem.W.mg_none_of X G z1, PySem.W.mg_none_of X G z2, PySem.W.mg_none_of X G z3, PySem.W.mg_none_of X G z4, PySem.W.mg_none_of X G z5, PySem.W.mg_none_of X G z6, PySem.W.mg_none_of X G z7, PySem.W.mg_none_of X G z8, PySem.W.mg_none_of X G z9, PySem.W.mg_none_of X G z10, PySem.W.mg_none_of X G z11, PySem.W.mg_none_of X G z12, PySem.W.mg_none_of X G z13, PySem.W.mg_none_of X G z14, PySem.W.mg_none_of X G z15, PySem.W.mg_none_of X G z16, PySem.W.mg_none_of X G z17, PySem.W.mg_none_of X G z18, PySem.W.mg_none_of X G z19, PySem.W.mg_none_of X G z20⟩
 obtain ⟨f22, od22, an22, sl22, oc22, kV22, dc22, pm22, cd22, ct22, a22, l22, c22, k22⟩ := D22
 have e := hfa.symm.trans (PySem.W.mg_of X G a22)
 cases e
 refine ⟨PySem.W.fnOf "law" "law" (defArgs sLaw) (defBody sLaw) (defScope sLaw) .none kV22 dc22 pm22 an22 cd22 ct22, fun s v => .of_eq rfl, fun base _ _ => ?_⟩
 have e1 := d_is_there (P := l.prog) (w := w) (base := base) B T1
 have e2 := d_names_in (P := l.prog) (w := w) (base := base) B T2
 have e3 := d_is_pair (P := l.prog) (w := w) (base := base) B T3
 have e4 := d_is_of_name B e1 e3 T4
 have e5 := d_is_tree B e2 e4 T5
 have e6 := d_parts_of (P := l.prog) (w := w) (base := base) B T6
 have e7 := d_word_of B e6 T7
 have e8 := d_size_of (P := l.prog) (w := w) (base := base) B T8
 have e9 := d_law_deal (P := l.prog) (w := w) (base := base) B T9
 have e10 := d_law_draw (P := l.prog) (w := w) (base := base) B T10
 have e11 := d_law_whole (P := l.prog) (w := w) (base := base) B T11
 have e12 := d_law_letters B e10 T12
 have e13 := d_law_grammar B e10 T13
 have e14 := d_law_inner (P := l.prog) (w := w) (base := base) B T14
 have e15 := d_law_is_tree B e11 e14 T15
 have e16 := d_law_word_of (P := l.prog) (w := w) (base := base) B T16
 have e17 := d_law_size (P := l.prog) (w := w) (base := base) B T17
 have e18 := d_law_least_trees B e14 T18
 have e19 := d_law_tree B e10 e14 T19
 have e20 := d_law_bent B e10 T20
 have e21 := d_law_right B e5 e7 e8 e15 e16 e17 T21
 exact law_ok B e9 e10 e12 e13 e18 e19 e20 e21 (fun_mk (st := sLaw) l22 c22 k22)
theorem walk {l : PySem.W.OpenLaw} {q : Program} {loose : List Str} {XP : (Str → Option Value) → Heap → Prop} {YP : World → Heap → Prop} {d : DefRec} {K : Params → PySem.W.Frag} (hn : l.most = some 63) (hdf : d.params.defaults = [])
   (hY : ∀ (w : World) (h : Heap), YP w h → (K w.params).In h)
   (F : ∀ (w : World) (mg : Str → Option Value) (fa : Addr) (h : Heap), (K w.params).In h → h.Ns mainGlobals mg → mg d.name = some (.ref fa) →
     ∃ fd : FuncData, (∀ (s : Shared) (u : Value), BindsTo s fd ⟨[u], []⟩ [("_law_script", u)]) ∧ ∀ base : Heap, (K w.params).In base → base.Ns mainGlobals mg → FnOk l.prog w (K w.params) mg base CX0 13 fa fd ["_law_script"] (spLaw (K w.params))) :
   PySem.W.WalkO q loose XP YP l.row.toRowW d [] (fun f vs => PySem.call f vs) :=
 L2.walk_of (n := 63) (k := 13) (x := "_law_script") (CX := fun _ => CX0) (sp := fun w => spLaw (K w.params)) hn (by decide) hdf ⟨rfl, by decide, by decide, rfl⟩ hY F (fun _ _ a ns hl _ hS => ⟨a, ns, rfl, hS, hl, fun _ => rfl⟩) fun _ _ _ _ _ z => z
end L50
open PySem PySem.W PyProof.Rows
set_option maxRecDepth 100000 in
set_option maxHeartbeats 0 in
theorem PySem.Challenge.cw_lostpost_k50_trees_holds : PySem.Challenge.rw_lostpost_k50_trees.Holds := by
 w_on; o_law; k_head; (case hw => w_witness2)
 k_fill
 refine L50.walk (l := PySem.Challenge.rw_lostpost_k50_trees) rfl rfl (fun w h Y => PySem.W.kIn_of Y) ?F
 case F =>
   intro w mg fa h KX G hmg
   refine' L50.all_mk KX G hmg (L50.din_mk ?a1 ?l1 ?c1 ?k1) (L50.din_mk ?a2 ?l2 ?c2 ?k2) (L50.din_mk ?a3 ?l3 ?c3 ?k3) (L50.din_mk ?a4 ?l4 ?c4 ?k4) (L50.din_mk ?a5 ?l5 ?c5 ?k5) (L50.din_mk ?a6 ?l6 ?c6 ?k6) (L50.din_mk ?a7 ?l7 ?c7 ?k7) (L50.din_mk ?a8 ?l8 ?c8 ?k8) (L50.din_mk ?a9 ?l9 ?c9 ?k9) (L50.din_mk ?a10 ?l10 ?c10 ?k10) (L50.din_mk ?a11 ?l11 ?c11 ?k11) (L50.din_mk ?a12 ?l12 ?c12 ?k12) (L50.din_mk ?a13 ?l13 ?c13 ?k13) (L50.din_mk ?a14 ?l14 ?c14 ?k14) (L50.din_mk ?a15 ?l15 ?c15 ?k15) (L50.din_mk ?a16 ?l16 ?c16 ?k16) (L50.din_mk ?a17 ?l17 ?c17 ?k17) (L50.din_mk ?a18 ?l18 ?c18 ?k18) (L50.din_mk ?a19 ?l19 ?c19 ?k19) (L50.din_mk ?a20 ?l20 ?c20 ?k20) (L50.din_mk ?a21 ?l21 ?c21 ?k21) (L50.din_mk ?a22 ?l22 ?c22 ?k22) ?z1 ?z2 ?z3 ?z4 ?z5 ?z6 ?z7 ?z8 ?z9 ?z10 ?z11 ?z12 ?z13 ?z14 ?z15 ?z16 ?z17 ?z18 ?z19 ?z20
   (case a1 => k_is); (case l1 => k_is); (case c1 => k_is); (case k1 => k_is)
   (case a2 => k_is); (case l2 => k_is); (case c2 => k_is); (case k2 => k_is)
   (case a3 => k_is); (case l3 => k_is); (case c3 => k_is); (case k3 => k_is)
   (case a4 => k_is); (case l4 => k_is); (case c4 => k_is); (case k4 => k_is)
   (case a5 => k_is); (case l5 => k_is); (case c5 => k_is); (case k5 => k_is)
   (case a6 => k_is); (case l6 => k_is); (case c6 => k_is); (case k6 => k_is)
   (case a7 => k_is); (case l7 => k_is); (case c7 => k_is); (case k7 => k_is)
   (case a8 => k_is); (case l8 => k_is); (case c8 => k_is); (case k8 => k_is)
   (case a9 => k_is); (case l9 => k_is); (case c9 => k_is); (case k9 => k_is)
   (case a10 => k_is); (case l10 => k_is); (case c10 => k_is); (case k10 => k_is)
   (case a11 => k_is); (case l11 => k_is); (case c11 => k_is); (case k11 => k_is)
   (case a12 => k_is); (case l12 => k_is); (case c12 => k_is); (case k12 => k_is)
   (case a13 => k_is); (case l13 => k_is); (case c13 => k_is); (case k13 => k_is)
   (case a14 => k_is); (case l14 => k_is); (case c14 => k_is); (case k14 => k_is)
   (case a15 => k_is); (case l15 => k_is); (case c15 => k_is); (case k15 => k_is)
   (case a16 => k_is); (case l16 => k_is); (case c16 => k_is); (case k16 => k_is)
   (case a17 => k_is); (case l17 => k_is); (case c17 => k_is); (case k17 => k_is)
   (case a18 => k_is); (case l18 => k_is); (case c18 => k_is); (case k18 => k_is)
   (case a19 => k_is); (case l19 => k_is); (case c19 => k_is); (case k19 => k_is)
   (case a20 => k_is); (case l20 => k_is); (case c20 => k_is); (case k20 => k_is)
   (case a21 => k_is); (case l21 => k_is); (case c21 => k_is); (case k21 => k_is)
   (case a22 => k_is); (case l22 => k_is); (case c22 => k_is); (case k22 => k_is)
   (case z1 => k_is)
   (case z2 => k_is)
   (case z3 => k_is)
   (case z4 => k_is)
   (case z5 => k_is)
   (case z6 => k_is)
   (case z7 => k_is)
   (case z8 => k_is)
   (case z9 => k_is)
   (case z10 => k_is)
   (case z11 => k_is)
   (case z12 => k_is)
   (case z13 => k_is)
   (case z14 => k_is)
   (case z15 => k_is)
   (case z16 => k_is)
   (case z17 => k_is)
   (case z18 => k_is)
   (case z19 => k_is)
   (case z20 => k_is)

