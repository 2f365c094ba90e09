import PyProof.Rows.All
import Wide.All
import OpenK.AllK
import Wide.FinOn
import Lean
import PyProof.EqAt
import PyProof.EqKinds
import PyProof.TupleCall
import PyProof.P3Eq
import PyProof.P3In
import PyProof.ReprRoads
import PyProof.StrWalks
import PyProof.ListRange
import PyProof.ListStr
import PyProof.ConsumeWalk
import PyProof.MinMaxWalk
import PyProof.NeData
import PyProof.SliceStr2
import PyProof.Rows.SortStr
import PyProof.Rows.StrJoin2
import PyProof.Rows.SeqMore
import PyProof.SeqI3
import PyProof.StrLawsIn
import PyProof.ReprBulk
import PyProof.ListMulRoad
import PyProof.StrOps2
import PySem.Challenge.RW_lostpost_k13_least_words
import PyProof.Rows.SortShellK
import KE.KSortTup
import PyProof.Rows.SetFrom
import PyProof.CollectIter
import PyProof.CollectStr
import PyProof.FactsAll.set
import KE.KDictOf
import PyProof.AttrMissHeap
import PyProof.DictWalks
import KE.KDictLaws
import PyProof.Draws
import KE.KRevIter
import PyProof.EnumStmt
import PyProof.JoinWalk
import KE.BitLaws
import PyProof.TupleOfSeq
import PySem.SetTable
import PyProof.SetScanFacts
import PyProof.TupleKey
import PyProof.IsRules
set_option Elab.async false
set_option linter.all false
set_option maxRecDepth 100000
namespace L2
open PySem PySem.Spec PyProof.Rows
abbrev Key := Sum Int Str
def keyIs : Key → Value → Bool
 | .inl k, v => Value.isInt k v
 | .inr x, v => Value.isStrOf x v
def keyH (w : World) : Key → Int
 | .inl k => hashInt k
 | .inr x => hashStr w x
theorem keyIs_shape : ∀ {k : Key} {v : Value}, keyIs k v = true → (∃ i t, k = Sum.inl i ∧ v = Value.int i t) ∨ (∃ x t, k = Sum.inr x ∧ v = Value.str x t)
 | .inl i, v, h => by
   obtain ⟨t, e⟩ := Value.isInt_shape (k := i) (v := v) h
   exact .inl ⟨i, t, rfl, e⟩
 | .inr x, v, h => by
   obtain ⟨t, e⟩ := Value.isStrOf_shape (x := x) (v := v) h
   exact .inr ⟨x, t, rfl, e⟩
theorem keyIs_int (i : Int) (t : Tok) : keyIs (.inl i) (.int i t) = true := by simp [keyIs, Value.isInt]
theorem keyIs_str (x : Str) (t : Tok) : keyIs (.inr x) (.str x t) = true := by simp [keyIs, Value.isStrOf]
theorem key_ll (a b : Int) : decide ((Sum.inl a : Key) = Sum.inl b) = (a == b) := by
 by_cases e : a = b
 · subst e; simp
 · have h : ¬ (Sum.inl a : Key) = Sum.inl b := fun q => e (Sum.inl.inj q)
   rw [decide_eq_false h]
   exact (beq_eq_false_iff_ne.mpr e).symm
theorem key_rr (a b : Str) : decide ((Sum.inr a : Key) = Sum.inr b) = decide (a = b) := by
 by_cases e : a = b
 · subst e; simp
 · have h : ¬ (Sum.inr a : Key) = Sum.inr b := fun q => e (Sum.inr.inj q)
   rw [decide_eq_false h, decide_eq_false e]
theorem key_lr (a : Int) (b : Str) : decide ((Sum.inl a : Key) = Sum.inr b) = false := decide_eq_false (fun q => nomatch q)
theorem key_rl (a : Str) (b : Int) : decide ((Sum.inr a : Key) = Sum.inl b) = false := decide_eq_false (fun q => nomatch q)
def mixKind (prog : Program) (w : World) : PySem.KeyKind prog w Key where
 is := keyIs
 hash := keyH w
 inj := fun v a b ha hb => by
   rcases keyIs_shape ha with ⟨i, t, rfl, rfl⟩ | ⟨x, t, rfl, rfl⟩
   · rcases keyIs_shape hb with ⟨j, u, rfl, e⟩ | ⟨y, u, rfl, e⟩
     · injection e with e1 _; rw [e1]
     · exact nomatch e
   · rcases keyIs_shape hb with ⟨j, u, rfl, e⟩ | ⟨y, u, rfl, e⟩
     · exact nomatch e
     · injection e with e1 _; rw [e1]
 byValue := fun k v h => by
   rcases keyIs_shape h with ⟨i, t, rfl, rfl⟩ | ⟨x, t, rfl, rfl⟩ <;> rfl
 pyHash := fun hv h => by
   rcases keyIs_shape hv with ⟨i, t, rfl, rfl⟩ | ⟨x, t, rfl, rfl⟩
   · exact wpAny_pyHash_int h
   · exact wpAny_pyHash_str h
 eqBool := fun hu hv h => by
   rcases keyIs_shape hu with ⟨i, t, rfl, rfl⟩ | ⟨x, t, rfl, rfl⟩
   · rcases keyIs_shape hv with ⟨j, u, rfl, rfl⟩ | ⟨y, u, rfl, rfl⟩
     · rw [key_ll] at h; exact wpAny_eqBool_int h
     · rw [key_lr] at h; exact SeqAt.EqAt.int_str i t y u _ _ _ _ h
   · rcases keyIs_shape hv with ⟨j, u, rfl, rfl⟩ | ⟨y, u, rfl, rfl⟩
     · rw [key_rl] at h; exact SeqAt.EqAt.str_int x t j u _ _ _ _ h
     · rw [key_rr] at h; exact wpAny_eqBool_str h
 «strs» := fun k x t v h => by
   rcases keyIs_shape h with ⟨i, u, rfl, e⟩ | ⟨y, u, rfl, e⟩
   · exact nomatch e
   · injection e with e1 _
     subst e1
     cases v <;> rfl
theorem mixKind_int (prog : Program) (w : World) (i : Int) (t : Tok) : (mixKind prog w).is (.inl i) (.int i t) = true := keyIs_int i t
theorem mixKind_str (prog : Program) (w : World) (x : Str) (t : Tok) : (mixKind prog w).is (.inr x) (.str x t) = true := keyIs_str x t
end L2
namespace L2
open PySem PySem.Spec PyProof.Rows
inductive V where
 | non | bl (b : Bool) | int (i : Int) | str (x : Str) | byt (b : Array UInt8) | flt (b : UInt64) | ref (a : Addr) | ty (n : String)
 deriving DecidableEq
def RelV : V → Value → Prop
 | .non, u => u = Value.none
 | .bl b, u => u = Value.bool b
 | .int i, u => ∃ t, u = Value.int i t
 | .str x, u => ∃ t, u = Value.str x t
 | .byt b, u => ∃ t, u = Value.bytes b t
 | .flt b, u => ∃ t, u = Value.float b t
 | .ref a, u => u = Value.ref a
 | .ty n, u => u = Value.type n
abbrev Vals : List V → List Value → Prop := Paired RelV
theorem Vals.length {xs : List V} {us : List Value} (r : Vals xs us) : xs.length = us.length := Paired.length r
theorem Vals.get : ∀ {xs : List V} {us : List Value} {i : Nat} {x : V}, Vals xs us → xs[i]? = some x → ∃ u, us[i]? = some u ∧ RelV x u
 | _, _, _, _, .nil, e => by simp at e
 | _, _, 0, _, .cons r _, e => by simp at e; subst e; exact ⟨_, rfl, r⟩
 | _, _, i + 1, x, .cons _ t, e => by
   obtain ⟨u, h1, h2⟩ := Vals.get (i := i) (x := x) t (by simpa using e)
   exact ⟨u, by simpa using h1, h2⟩
theorem Vals.append : ∀ {xs ys : List V} {us ws : List Value}, Vals xs us → Vals ys ws → Vals (xs ++ ys) (us ++ ws)
 | _, _, _, _, .nil, s => s
 | _, _, _, _, .cons r t, s => .cons r (Vals.append t s)
theorem Vals.take : ∀ {xs : List V} {us : List Value} (n : Nat), Vals xs us → Vals (xs.take n) (us.take n)
 | _, _, 0, _ => .nil
 | _, _, _ + 1, .nil => .nil
 | _, _, n + 1, .cons r t => .cons r (Vals.take n t)
theorem Vals.drop : ∀ {xs : List V} {us : List Value} (n : Nat), Vals xs us → Vals (xs.drop n) (us.drop n)
 | _, _, 0, r => r
 | _, _, _ + 1, .nil => .nil
 | _, _, n + 1, .cons _ t => Vals.drop n t
def RelO : Option V → Option Value → Prop
 | some v, some u => RelV v u
 | none, none => True
 | _, _ => False
def KV {κ : Type} : List (κ × V) → List (κ × Value) → Prop := Paired fun (p : κ × V) (q : κ × Value) => p.1 = q.1 ∧ RelV p.2 q.2
def kV : Key → V
 | .inl i => .int i
 | .inr x => .str x
inductive HO where
   | lst (xs : List V)
   | tup (xs : List V)
   | dK (kvs : List (Key × V)) | dT (kvs : List (List Key × V))
   | set (S : Int → Bool) (n : Nat)
   | ins (C dx : Addr) (fs : List (Str × V))
   | own (x : Addr)
   | xd (fs : List (Str × V))
   | met (f x : Addr)
   | rng (lo hi : Int)
   | frz (o : Obj) (u : HO)
   | tbl (ps : Array Value)
   | ext (φ : Heap → Prop)
abbrev Hp := Addr → Option HO
def upd (H : Hp) (a : Addr) (o : HO) : Hp := fun b => if b = a then some o else H b
theorem upd_same {H : Hp} {a : Addr} {o : HO} : upd H a o a = some o := by unfold upd; rw [if_pos rfl]
theorem upd_ne {H : Hp} {a b : Addr} {o : HO} (h : b ≠ a) : upd H a o b = H b := by unfold upd; rw [if_neg h]
theorem ne_of {H : Hp} {a b : Addr} {o u : HO} (h : H a = some o) (h' : H b = some u) (d : o ≠ u) : a ≠ b := by
 intro e; subst e; rw [h] at h'; exact d (Option.some.inj h')
theorem ne_of_none {H : Hp} {a b : Addr} {o : HO} (h : H a = some o) (h' : H b = none) : a ≠ b := by
 intro e; subst e; rw [h] at h'; cases h'
section
variable (P : Program) (w : World)
def ObjOk (H : Hp) (h : Heap) (a : Addr) : HO → Prop
 | .lst xs => xs.length ≤ sizeLine ∧ ∃ (its : List Value) (n : Nat), Vals xs its ∧ h.get? a = some { cls := .type "list", data := .seq its.toArray n }
 | .tup xs => xs.length ≤ sizeLine ∧ ∃ its : List Value, Vals xs its ∧ IsTup h a its.toArray
 | .dK kvs => kvs.length ≤ sizeLine ∧ (a == sysModules) = false ∧ ∃ vs, KV kvs vs ∧ h.DictOf (mixKind P w) a vs
 | .dT kvs => kvs.length ≤ sizeLine ∧ (a == sysModules) = false ∧ ∃ xs : List (List Key × Addr × Value),
     Paired (fun (p : List Key × V) (q : List Key × Addr × Value) => p.1 = q.1 ∧ H q.2.1 = some (.tup (p.1.map kV)) ∧ RelV p.2 q.2.2) kvs xs ∧
     ∃ o es ep, h.get? a = some o ∧ o.ExactDict ∧ o.data = .dict es ep ∧ es.toList = xs.map (entryOfKey (tupleKind (mixKind P w))) ∧ (xs.map (·.1)).Nodup
 | .set S n => h.SetOf (intKind P w) a S n
 | .ins C dx fs => H dx = some (.own a) ∧ fs.length ≤ 1000 ∧ dx ≠ a ∧ h.get? a = some (PySem.W.instObj C dx) ∧
     ∃ mA, h.Ns1 dx mA ∧ (∀ f, RelO (fs.lookup f) (mA f)) ∧ PySem.Within mA (fs.map (·.1))
 | .own _ => ∃ o, h.get? a = some o
 | .xd fs => ∃ mA, h.Ns1 a mA ∧ ∀ f, RelO (fs.lookup f) (mA f)
 | .rng lo hi => ∃ t u v, h.get? a = some { cls := .type "range", data := .fields #[.int lo t, .int hi u, .int 1 v] }
 | .frz o u => h.get? a = some o ∧ ObjOk H h a u
 | .tbl ps => h.get? a = some { cls := .none, data := .fields ps }
 | .met f x => h.get? a = some (PySem.W.methodObj (.ref f) (.ref x))
 | .ext φ => φ h ∧ (∃ o, h.get? a = some o) ∧ ∀ h1 h2 : Heap, φ h1 → (∀ o, h1.get? a = some o → h2.get? a = some o) → φ h2
def HOk (H : Hp) (h : Heap) : Prop := ∀ a o, H a = some o → ObjOk P w H h a o
end
section
variable {P : Program} {w : World} {H H' : Hp} {h h' : Heap} {a : Addr} {o : HO}
theorem ObjOk.lt (x : ObjOk P w H h a o) : a < h.objs.size := by
 cases o with
 | lst xs => obtain ⟨_, _, _, _, e⟩ := x; exact Heap.lt_size e
 | tup xs => obtain ⟨_, _, _, p⟩ := x; exact p.lt
 | dK kvs => obtain ⟨_, _, _, _, o, _, _, e, _⟩ := x; exact Heap.lt_size e
 | dT kvs => obtain ⟨_, _, _, _, o, _, _, e, _⟩ := x; exact Heap.lt_size e
 | set S n => obtain ⟨o, _, _, _, e, _⟩ := x; exact Heap.lt_size e
 | ins C dx fs => obtain ⟨_, _, _, e, _⟩ := x; exact Heap.lt_size e
 | own y => obtain ⟨_, e⟩ := x; exact Heap.lt_size e
 | xd fs => obtain ⟨_, ⟨_, _, _, e, _⟩, _⟩ := x; exact Heap.lt_size e
 | rng lo hi => obtain ⟨_, _, _, e⟩ := x; exact Heap.lt_size e
 | frz ob u => obtain ⟨e, _⟩ := x; exact Heap.lt_size e
 | tbl ps => exact Heap.lt_size (show h.get? a = some _ from x)
 | met f y => exact Heap.lt_size (show h.get? a = some _ from x)
 | ext φ => obtain ⟨_, ⟨_, e⟩, _⟩ := x; exact Heap.lt_size e
theorem Paired.mapP {α β : Type} {F G : α → β → Prop} : ∀ {l₁ : List α} {l₂ : List β}, Paired F l₁ l₂ → (∀ a b, F a b → G a b) → Paired G l₁ l₂
 | _, _, .nil, _ => .nil
 | _, _, .cons r t, f => .cons (f _ _ r) (Paired.mapP t f)
theorem ObjOk.stay (x : ObjOk P w H h a o) (k : ∀ b u, (b = a ∨ H b = some (.own a)) → h.get? b = some u → h'.get? b = some u)
   (ho : ∀ b, H b = some (.own a) → H' b = some (.own a)) (ht : ∀ b xs, H b = some (.tup xs) → H' b = some (.tup xs)) : ObjOk P w H' h' a o := by
 induction o with
 | lst xs => obtain ⟨z, its, n, r, e⟩ := x; exact ⟨z, its, n, r, k _ _ (.inl rfl) e⟩
 | tup xs => obtain ⟨z, its, r, ob, e, c⟩ := x; exact ⟨z, its, r, ob, k _ _ (.inl rfl) e, c⟩
 | dK kvs => obtain ⟨z, y, vs, r, ob, es, ep, e, c⟩ := x; exact ⟨z, y, vs, r, ob, es, ep, k _ _ (.inl rfl) e, c⟩
 | dT kvs =>
   obtain ⟨z, y, xs, r, ob, es, ep, e, c⟩ := x
   exact ⟨z, y, xs, Paired.mapP r fun p q z => ⟨z.1, ht _ _ z.2.1, z.2.2⟩, ob, es, ep, k _ _ (.inl rfl) e, c⟩
 | set S n => obtain ⟨ob, es, ep, t, e, c⟩ := x; exact ⟨ob, es, ep, t, k _ _ (.inl rfl) e, c⟩
 | ins C dx fs =>
   obtain ⟨d, z, ne, e, mA, ⟨od, es, ep, e2, c⟩, r⟩ := x
   exact ⟨ho _ d, z, ne, k _ _ (.inl rfl) e, mA, ⟨od, es, ep, k _ _ (.inr d) e2, c⟩, r⟩
 | own y => obtain ⟨ob, e⟩ := x; exact ⟨ob, k _ _ (.inl rfl) e⟩
 | xd fs => obtain ⟨mA, ⟨od, es, ep, e, c⟩, r⟩ := x; exact ⟨mA, ⟨od, es, ep, k _ _ (.inl rfl) e, c⟩, r⟩
 | rng lo hi => obtain ⟨t, u, v, e⟩ := x; exact ⟨t, u, v, k _ _ (.inl rfl) e⟩
 | frz ob u ih => obtain ⟨e, q⟩ := x; exact ⟨k _ _ (.inl rfl) e, ih q⟩
 | tbl ps =>
   have e : h.get? a = some { cls := .none, data := .fields ps } := x
   show h'.get? a = some { cls := .none, data := .fields ps }
   exact k a _ (.inl rfl) e
 | met f y =>
   have e : h.get? a = some (PySem.W.methodObj (.ref f) (.ref y)) := x
   show h'.get? a = some (PySem.W.methodObj (.ref f) (.ref y))
   exact k a _ (.inl rfl) e
 | ext φ => obtain ⟨p, ⟨o, e⟩, st⟩ := x; exact ⟨st _ _ p fun o q => k _ _ (.inl rfl) q, ⟨o, k _ _ (.inl rfl) e⟩, st⟩
theorem HOk.lt (x : HOk P w H h) (e : H a = some o) : a < h.objs.size := (x a o e).lt
theorem HOk.fresh (x : HOk P w H h) (e : h.objs.size ≤ a) : H a = none := by
 cases q : H a with
 | none => rfl
 | some u => exact absurd (Nat.lt_of_lt_of_le (x.lt q) e) (Nat.lt_irrefl _)
theorem HOk.kept (x : HOk P w H h) (k : ∀ b u, h.get? b = some u → h'.get? b = some u) : HOk P w H h' := fun a o e =>
 (x a o e).stay (fun b u _ q => k b u q) (fun _ q => q) fun _ _ q => q
theorem HOk.laid (x : HOk P w H h) (k : ∀ b u, h.get? b = some u → h'.get? b = some u) (hp : h.objs.size ≤ a) (new : ObjOk P w (upd H a o) h' a o) : HOk P w (upd H a o) h' := fun b u e => by
 have hn := x.fresh hp
 by_cases hb : b = a
 · subst hb; rw [upd_same] at e; cases e; exact new
 · rw [upd_ne hb] at e
   exact (x b u e).stay (fun c v _ q => k c v q) (fun c q => by rw [upd_ne (ne_of_none q hn)]; exact q) fun c xs q => by rw [upd_ne (ne_of_none q hn)]; exact q
end
def Rd (H : Hp) (a : Addr) (u : HO) : Prop := H a = some u ∨ ∃ o, H a = some (.frz o u)
theorem Rd.ok {P : Program} {w : World} {H : Hp} {h : Heap} {a : Addr} {u : HO} (r : Rd H a u) (x : HOk P w H h) : ObjOk P w H h a u := by
 rcases r with r | ⟨o, r⟩
 · exact x a u r
 · obtain ⟨_, q⟩ := x a _ r
   exact q
def Mut : Option HO → Prop
 | some (.lst _) => True
 | some (.dK _) => True
 | some (.dT _) => True
 | some (.set _ _) => True
 | some (.ins _ _ _) => True
 | some (.ext _) => True
 | _ => False
section
variable {P : Program} {w : World} {H : Hp} {h h' : Heap} {x e : Addr} {o' : HO}
theorem HOk.write (ok : HOk P w H h) (mu : Mut (H x)) (he : e = x ∨ H e = some (.own x)) (k : ∀ b u, b ≠ e → h.get? b = some u → h'.get? b = some u) (heo : ∃ u, h'.get? e = some u)
   (new : ObjOk P w (upd H x o') h' x o') : HOk P w (upd H x o') h' := fun b u q => by
 have nown : ∀ c y, H c = some (.own y) → c ≠ x := fun c y r z => by subst z; rw [r] at mu; exact mu
 have ntup : ∀ c xs, H c = some (.tup xs) → c ≠ x := fun c xs r z => by subst z; rw [r] at mu; exact mu
 by_cases hb : b = x
 · subst hb; rw [upd_same] at q; cases q; exact new
 · rw [upd_ne hb] at q
   by_cases hbe : b = e
   · have q' : H b = some (.own x) := by
       rcases he with z | z
       · exact absurd (hbe.trans z) hb
       · rw [hbe]; exact z
     rw [q] at q'; cases q'
     obtain ⟨v, hv⟩ := heo
     exact ⟨v, by rw [hbe]; exact hv⟩
   · refine (ok b u q).stay (fun c v hc r => k c v ?_ r) (fun c r => by rw [upd_ne (nown c b r)]; exact r) fun c xs r => by rw [upd_ne (ntup c xs r)]; exact r
     rcases hc with rfl | hc
     · exact hbe
     · rintro rfl
       rcases he with z | z
       · exact nown c b hc z
       · rw [hc] at z; cases z; exact hb rfl
end
structure Un (fs ex : List Addr) (H H' : Hp) (h h' : Heap) : Prop where
 keep : ∀ b o, h.get? b = some o → H b = none → b ∉ fs → b ∉ ex → h'.get? b = some o
 slot : ∀ b o, h.get? b = some o → H b = none → b ∈ fs → b ∉ ex → ∃ sl, h'.get? b = some { o with slots := sl }
 free : ∀ b o, h.get? b = some o → H b = none → b ∉ ex → H' b = none
 there : ∀ b o, h.get? b = some o → b ∉ ex → ∃ o', h'.get? b = some o'
 tups : ∀ b xs, H b = some (.tup xs) → H' b = some (.tup xs)
 frzs : ∀ b o u, H b = some (.frz o u) → H' b = some (.frz o u)
 tbls : ∀ b ps, H b = some (.tbl ps) → ∃ more, H' b = some (.tbl (ps ++ more))
section
variable {fs fs' ex ex' : List Addr} {H H1 H2 : Hp} {h h1 h2 h' : Heap} {a x e : Addr} {o : HO}
theorem Un.any (u : Un fs ex H H1 h h1) {b : Addr} {ob : Obj} (q : h.get? b = some ob) (n : H b = none) (hx : b ∉ ex) : ∃ sl, h1.get? b = some { ob with slots := sl } := by
 by_cases hb : b ∈ fs
 · exact u.slot b ob q n hb hx
 · exact ⟨ob.slots, u.keep b ob q n hb hx⟩
theorem Un.kept (k : ∀ b u, h.get? b = some u → h'.get? b = some u) : Un fs ex H H h h' :=
 ⟨fun b ob q _ _ _ => k b ob q, fun b ob q _ _ _ => ⟨ob.slots, k b ob q⟩, fun _ _ _ n _ => n, fun b ob q _ => ⟨ob, k b ob q⟩, fun _ _ q => q, fun _ _ _ q => q, fun _ ps q => ⟨#[], by rw [q]; simp⟩⟩
theorem Un.refl : Un fs ex H H h h := Un.kept fun _ _ q => q
theorem Un.laid (k : ∀ b u, h.get? b = some u → h'.get? b = some u) (hp : h.objs.size ≤ a) (hn : H a = none) : Un fs ex H (upd H a o) h h' where
 keep := fun b u q _ _ _ => k b u q
 slot := fun b u q _ _ _ => ⟨u.slots, k b u q⟩
 free := fun b u q n _ => by rw [upd_ne (Nat.ne_of_lt (Nat.lt_of_lt_of_le (Heap.lt_size q) hp))]; exact n
 there := fun b u q _ => ⟨u, k b u q⟩
 tups := fun b xs q => by rw [upd_ne (ne_of_none q hn)]; exact q
 frzs := fun b u xs q => by rw [upd_ne (ne_of_none q hn)]; exact q
 tbls := fun b ps q => ⟨#[], by rw [upd_ne (ne_of_none q hn), q]; simp⟩
theorem Un.write (mu : Mut (H x)) (he : e = x ∨ H e = some (.own x)) (k : ∀ b u, b ≠ e → h.get? b = some u → h'.get? b = some u) (heo : ∃ u, h'.get? e = some u) : Un fs ex H (upd H x o) h h' := by
 have hx : ∀ b, H b = none → b ≠ x := fun b n z => by subst z; rw [n] at mu; exact mu
 have hb : ∀ b, H b = none → b ≠ e := fun b n z => by
   subst z
   rcases he with r | r
   · exact hx b n r
   · rw [n] at r; cases r
 have hm : ∀ b u, H b = some u → ¬ Mut (some u) → b ≠ x := fun b u q nm z => by subst z; rw [q] at mu; exact nm mu
 refine ⟨fun b u q n _ _ => k b u (hb b n) q, fun b u q n _ _ => ⟨u.slots, k b u (hb b n) q⟩, fun b u q n _ => by rw [upd_ne (hx b n)]; exact n, fun b u q _ => ?_,
   fun b xs q => by rw [upd_ne (hm b _ q fun z => z)]; exact q, fun b u xs q => by rw [upd_ne (hm b _ q fun z => z)]; exact q, fun b ps q => ⟨#[], by rw [upd_ne (hm b _ q fun z => z), q]; simp⟩⟩
 by_cases hbe : b = e
 · subst hbe; exact heo
 · exact ⟨u, k b u hbe q⟩
end
def trk (h : Heap) (H : Hp) : List Addr := (List.range h.objs.size).filter fun a => (H a).isSome
def hidT (h : Heap) (H : Hp) : Heap := PySem.W.hideAll h (trk h H)
theorem hidT_size (h : Heap) (H : Hp) : (hidT h H).objs.size = h.objs.size := PySem.W.hideAll_size _ _
theorem hidT_get {h : Heap} {H : Hp} {b : Addr} {o : Obj} (e : h.get? b = some o) (n : H b = none) : (hidT h H).get? b = some o :=
 PySem.W.hideAll_get _ e fun hm => by
   have q : (H b).isSome = true := (List.mem_filter.mp hm).2
   rw [n] at q; simp at q
theorem of_hidT {h : Heap} {H : Hp} {b : Addr} {o : Obj} (e : (hidT h H).get? b = some o) : h.get? b = some o ∧ H b = none := by
 have e' : h.get? b = some o := PySem.W.of_hideAll (trk h H) e
 refine ⟨e', ?_⟩
 cases q : H b with
 | none => rfl
 | some x =>
   have hm : b ∈ trk h H := List.mem_filter.mpr ⟨List.mem_range.mpr (Heap.lt_size e'), by simp [q]⟩
   have z : (hidT h H).get? b = none := PySem.W.hideAll_none (trk h H) hm
   rw [z] at e; cases e
end L2
namespace L2
open PySem PySem.Spec PyProof.Rows
structure Mod (K : PySem.W.Frag) (mg : Str → Option Value) (base : Heap) : Prop where
 kin : K.In base
 glob : base.Ns mainGlobals mg
 blt : ∃ mb, base.Ns builtinsNs mb ∧ ∀ x : Str, x ≠ "__name__" → mb x = bootBuiltins x
 nolimit : base.NoLimit
structure Cx where
 prog : Program
 w : World
 K : PySem.W.Frag
 mg : Str → Option Value
 base : Heap
 A : Around
 N : List Str
 s₀ : Shared
 H₀ : Hp
 env : Env
 outer : List Env
 stack : List Env
 ex : List Addr
 fn : Str → Bool
 calm : Bool
 pn : List (Addr × Obj)
 xe : Value → Shared → Prop
def frs (l : List Env) : List Addr := l.filterMap (·.frame)
abbrev Cx.fs (X : Cx) : List Addr := frs X.outer
def Vis (sc : Scope) (x : Str) : Prop := sc.names.lookup x = some .local ∨ sc.names.lookup x = some .cell ∨ sc.names.lookup x = some .free
def Loc (sc : Scope) (x : Str) : Prop := sc.names.lookup x = some .local ∨ sc.names.lookup x = some .cell
def Look (env : Env) (h : Heap) (m : Str → Option Value) (x : Str) (u : Value) : Prop :=
 (env.kindOf x = some .local ∧ m x = some u) ∨ ((env.kindOf x = some .cell ∨ env.kindOf x = some .free) ∧ ∃ c, env.cells.lookup x = some c ∧ h.IsCell c (some u))
structure Cx.Ok (X : Cx) : Prop where
 mod : Mod X.K X.mg X.base
 kind : X.env.scope.kind = .function
 glob : X.env.globals = mainGlobals
 blt : X.env.builtins = builtinsNs
 above : X.s₀.heap.objs.size ≤ X.env.locals
 inj : ∀ x y c, X.env.cells.lookup x = some c → X.env.cells.lookup y = some c → x = y
 has : ∀ x, (X.env.kindOf x = some .cell ∨ X.env.kindOf x = some .free) → ∃ c, X.env.cells.lookup x = some c
 cab : ∀ x c, X.fn x = true → X.env.cells.lookup x = some c → X.s₀.heap.objs.size ≤ c
 hd : X.calm = true → X.A.handled = none
 frames : X.A.frames = some X.stack
 stk : X.stack = X.outer ∨ (X.stack = X.env :: X.outer ∧ X.env.frame = some X.env.locals)
 exf : ∀ b ∈ X.ex, b ≠ X.env.locals ∧ ∀ x c, X.env.cells.lookup x = some c → c ≠ b
 bs : ∀ b o, X.base.get? b = some o → X.s₀.heap.get? b = some o ∧ X.H₀ b = none
 bsz : X.base.objs.size ≤ X.s₀.heap.objs.size
 noex : ∀ b o, X.base.get? b = some o → b ∉ X.ex
 exfs : ∀ b ∈ X.ex, b ∉ X.fs
 funs : X.s₀.heap.FunFrames X.base X.outer
 frf : ∀ b ∈ X.fs, X.H₀ b = none
structure Inv (X : Cx) (pins : List (Addr × Obj)) (σ : List (Option V)) (H : Hp) (s : Shared) : Prop where
 ok : X.Ok
 os : s.os = X.s₀.os
 bare : AllBare s.gens
 base : Un X.fs X.ex X.H₀ H X.s₀.heap s.heap
 loc : ∃ m, s.heap.Ns X.env.locals m ∧ ∀ (i : Nat) (x : Str) (v : V), X.N[i]? = some x → σ[i]? = some (some v) → Vis X.env.scope x → ∃ u, RelV v u ∧ Look X.env s.heap m x u
 cell : ∀ x c, X.env.cells.lookup x = some c → ∃ v, s.heap.IsCell c v
 free : H X.env.locals = none
 freeC : ∀ x c, X.env.cells.lookup x = some c → H c = none
 pin : ∀ p ∈ X.pn ++ pins, s.heap.get? p.1 = some p.2 ∧ H p.1 = none ∧ p.1 ≠ X.env.locals ∧ p.1 ∉ X.fs ∧ ∀ v, p.2.data ≠ .cell v
 hok : HOk X.prog X.w H s.heap
 len : σ.length = X.N.length
section
variable {X : Cx} {pins : List (Addr × Obj)} {σ : List (Option V)} {H H' : Hp} {s : Shared} {h' : Heap}
theorem Cx.Ok.nofr (ok : X.Ok) {b : Addr} {o : Obj} (e : X.base.get? b = some o) : b ∉ X.fs := fun hb => by
 have := (ok.funs.mem hb).1
 rw [e] at this; cases this
theorem Inv.bs (I : Inv X pins σ H s) : ∀ b o, X.base.get? b = some o → s.heap.get? b = some o ∧ H b = none := fun b o e =>
 ⟨I.base.keep b o (I.ok.bs b o e).1 (I.ok.bs b o e).2 (I.ok.nofr e) (I.ok.noex b o e), I.base.free b o (I.ok.bs b o e).1 (I.ok.bs b o e).2 (I.ok.noex b o e)⟩
theorem Inv.bk (I : Inv X pins σ H s) : ∀ b o, X.base.get? b = some o → s.heap.get? b = some o := fun b o e => (I.bs b o e).1
theorem Inv.mod (I : Inv X pins σ H s) : Mod X.K X.mg X.base := I.ok.mod
theorem Inv.kIn (I : Inv X pins σ H s) : X.K.In s.heap := I.ok.mod.kin.keeps I.bk
theorem Inv.lt (I : Inv X pins σ H s) : X.env.locals < s.heap.objs.size := let ⟨_, hn, _⟩ := I.loc; hn.lt
theorem Inv.sz (I : Inv X pins σ H s) : X.s₀.heap.objs.size ≤ s.heap.objs.size := Nat.le_trans I.ok.above (Nat.le_of_lt I.lt)
theorem Inv.nofs (I : Inv X pins σ H s) {a : Addr} (h : s.heap.objs.size ≤ a) : a ∉ X.fs := fun hb => by
 obtain ⟨_, o, ho, _⟩ := I.ok.funs.mem hb
 exact absurd (Nat.lt_of_lt_of_le (Heap.lt_size ho) (Nat.le_trans I.sz h)) (Nat.lt_irrefl _)
theorem Inv.cne (I : Inv X pins σ H s) : ∀ x c, X.env.cells.lookup x = some c → c ≠ X.env.locals := fun x c e z => by
 obtain ⟨v, o, ho, hd⟩ := I.cell x c e
 obtain ⟨m, ⟨o', es, ep, ho', hd', _⟩, _⟩ := I.loc
 rw [z, ho'] at ho; cases ho; rw [hd'] at hd; cases hd
theorem Inv.funs (I : Inv X pins σ H s) : s.heap.FunFrames X.base X.outer := by
 have all : ∀ (l : List Env), (∀ b ∈ frs l, b ∈ X.fs) → X.s₀.heap.FunFrames X.base l → s.heap.FunFrames X.base l := by
   intro l
   induction l with
   | nil => intro _ _; trivial
   | cons env r ih =>
     intro hs hl
     obtain ⟨hk, ⟨L, o, hf, hn, ho, hd⟩, hr⟩ := hl
     have hL : L ∈ X.fs := hs L (by unfold frs; rw [List.filterMap_cons, hf]; exact List.mem_cons_self)
     obtain ⟨sl, e⟩ := I.base.slot L o ho (I.ok.frf L hL) hL fun z => I.ok.exfs L z hL
     exact ⟨hk, ⟨L, _, hf, hn, e, hd⟩, ih (fun b hb => hs b (by unfold frs; rw [List.filterMap_cons, hf]; exact List.mem_cons_of_mem _ hb)) hr⟩
 exact all X.outer (fun _ hb => hb) I.ok.funs
theorem Inv.stack (I : Inv X pins σ H s) : s.heap.FunFrames X.base X.stack := by
 rcases I.ok.stk with e | ⟨e, hf⟩
 · rw [e]; exact I.funs
 · rw [e]
   obtain ⟨m, hn, _⟩ := I.loc
   refine .cons (by rw [I.ok.kind]; decide) hf hn ?_ I.funs
   exact Heap.get?_none_of_le (Nat.le_trans I.ok.bsz I.ok.above)
theorem Inv.stkSub (I : Inv X pins σ H s) : ∀ b ∈ frs X.stack, b ∈ X.env.locals :: X.fs := fun b hb => by
 rcases I.ok.stk with e | ⟨e, hf⟩
 · rw [e] at hb; exact List.mem_cons_of_mem _ hb
 · rw [e] at hb
   unfold frs at hb
   rw [List.filterMap_cons, hf] at hb
   exact hb
theorem Inv.stkFree (I : Inv X pins σ H s) : ∀ b ∈ frs X.stack, H b = none := fun b hb => by
 rcases List.mem_cons.mp (I.stkSub b hb) with e | hb
 · rw [e]; exact I.free
 · obtain ⟨_, o, ho, _⟩ := I.ok.funs.mem hb
   exact I.base.free b o ho (I.ok.frf b hb) fun z => I.ok.exfs b z hb
theorem Inv.step {g' : Array GenState} {t' : Nat} {d' : Drawn} {ch : List Addr} (I : Inv X pins σ H s)
   (hch : ∀ b ∈ ch, (b ∈ X.ex ∨ X.s₀.heap.objs.size ≤ b) ∧ b ≠ X.env.locals ∧ (∀ x c, X.env.cells.lookup x = some c → c ≠ b) ∧ ∀ p ∈ X.pn ++ pins, p.1 ≠ b)
   (keep : ∀ b o, b ≠ X.env.locals → b ∉ X.fs → b ∉ ch → s.heap.get? b = some o → H b = none → h'.get? b = some o)
   (slot : ∀ b o, b ≠ X.env.locals → b ∈ X.fs → b ∉ ch → s.heap.get? b = some o → H b = none → ∃ sl, h'.get? b = some { o with slots := sl }) (free : ∀ b o, b ∉ ch → s.heap.get? b = some o → H b = none → H' b = none)
   (there : ∀ b o, b ∉ ch → s.heap.get? b = some o → ∃ o', h'.get? b = some o')
   (tups : ∀ b xs, H b = some (.tup xs) → H' b = some (.tup xs)) (frzs : ∀ b o u, H b = some (.frz o u) → H' b = some (.frz o u)) (tbls : ∀ b ps, H b = some (.tbl ps) → ∃ more, H' b = some (.tbl (ps ++ more)))
   (ns : ∀ m, s.heap.Ns X.env.locals m → h'.Ns X.env.locals m) (hok : HOk X.prog X.w H' h') (hg : AllBare g') :
   Inv X pins σ H' { s with heap := h', gens := g', drawn := d', toks := t' } := by
 have neL : ∀ b o, X.s₀.heap.get? b = some o → b ≠ X.env.locals := fun b o e => Nat.ne_of_lt (Nat.lt_of_lt_of_le (Heap.lt_size e) I.ok.above)
 have neC : ∀ b o, X.s₀.heap.get? b = some o → b ∉ X.ex → b ∉ ch := fun b o e hx hb => by
   rcases (hch b hb).1 with z | z
   · exact hx z
   · exact absurd (Nat.lt_of_lt_of_le (Heap.lt_size e) z) (Nat.lt_irrefl _)
 have cellK : ∀ x c, X.env.cells.lookup x = some c → ∀ v, s.heap.IsCell c v → h'.IsCell c v := fun x c e v ⟨o, ho, hd⟩ => by
   have nch : c ∉ ch := fun z => (hch c z).2.2.1 x c e rfl
   by_cases hc : c ∈ X.fs
   · obtain ⟨sl, q⟩ := slot c o (I.cne x c e) hc nch ho (I.freeC x c e)
     exact ⟨_, q, hd⟩
   · exact ⟨o, keep c o (I.cne x c e) hc nch ho (I.freeC x c e), hd⟩
 refine ⟨I.ok, I.os, hg, ⟨fun b o e n hb hx => ?_, fun b o e n hb hx => ?_, fun b o e n hx => ?_, fun b o e hx => ?_, fun b xs e => tups b xs (I.base.tups b xs e), fun b o xs e => frzs b o xs (I.base.frzs b o xs e), fun b ps e => ?_⟩, ?_, fun x c e => ?_, ?_, fun x c e => ?_, fun p hp => ?_, hok, I.len⟩
 · exact keep b o (neL b o e) hb (neC b o e hx) (I.base.keep b o e n hb hx) (I.base.free b o e n hx)
 · obtain ⟨sl, e1⟩ := I.base.slot b o e n hb hx
   obtain ⟨sl', e2⟩ := slot b _ (neL b o e) hb (neC b o e hx) e1 (I.base.free b o e n hx)
   exact ⟨sl', e2⟩
 · obtain ⟨o', e1⟩ := I.base.there b o e hx
   exact free b o' (neC b o e hx) e1 (I.base.free b o e n hx)
 · obtain ⟨o', e1⟩ := I.base.there b o e hx
   exact there b o' (neC b o e hx) e1
 · obtain ⟨m1, e1⟩ := I.base.tbls b ps e
   obtain ⟨m2, e2⟩ := tbls b _ e1
   exact ⟨m1 ++ m2, by rw [e2, Array.append_assoc]⟩
 · obtain ⟨m, hn, hl⟩ := I.loc
   refine ⟨m, ns m hn, fun i x v e1 e2 e3 => ?_⟩
   obtain ⟨u, r, l⟩ := hl i x v e1 e2 e3
   refine ⟨u, r, ?_⟩
   rcases l with l | ⟨k, c, e, z⟩
   · exact .inl l
   · exact .inr ⟨k, c, e, cellK x c e _ z⟩
 · obtain ⟨v, z⟩ := I.cell x c e
   exact ⟨v, cellK x c e v z⟩
 · obtain ⟨m, ⟨o, _, _, ho, _⟩, _⟩ := I.loc
   exact free _ o (fun z => (hch _ z).2.1 rfl) ho I.free
 · obtain ⟨v, o, ho, hd⟩ := I.cell x c e
   exact free c o (fun z => (hch c z).2.2.1 x c e rfl) ho (I.freeC x c e)
 · obtain ⟨e, n, ne, nf, d⟩ := I.pin p hp
   have nch : p.1 ∉ ch := fun z => (hch p.1 z).2.2.2 p hp rfl
   exact ⟨keep p.1 p.2 ne nf nch e n, free p.1 p.2 nch e n, ne, nf, d⟩
theorem Inv.un {t' : Nat} (I : Inv X pins σ H s) (u : Un X.fs [] H H' s.heap h') (hok : HOk X.prog X.w H' h') : Inv X pins σ H' { s with heap := h', toks := t' } := by
 obtain ⟨m, ⟨o, es, ep, ho, r⟩, _⟩ := id I.loc
 obtain ⟨sl, hL⟩ := u.any ho I.free (by simp)
 exact I.step (g' := s.gens) (d' := s.drawn) (ch := []) (fun _ z => nomatch z) (fun b o _ hb _ e n => u.keep b o e n hb (by simp)) (fun b o _ hb _ e n => u.slot b o e n hb (by simp)) (fun b o _ e n => u.free b o e n (by simp)) (fun b o _ e => u.there b o e (by simp)) u.tups u.frzs u.tbls (fun m' hm => by
   obtain ⟨o', es', ep', ho', r'⟩ := hm
   rw [ho] at ho'; cases ho'
   exact ⟨_, es', ep', hL, r'⟩) hok I.bare
theorem Inv.call {g' : Array GenState} {t' : Nat} {d' : Drawn} {ch : List Addr} (I : Inv X pins σ H s) (u : Un (frs X.stack) ch H H' s.heap h') (hok : HOk X.prog X.w H' h') (hg : AllBare g')
   (hch : ∀ b ∈ ch, (b ∈ X.ex ∨ X.s₀.heap.objs.size ≤ b) ∧ b ≠ X.env.locals ∧ (∀ x c, X.env.cells.lookup x = some c → c ≠ b) ∧ ∀ p ∈ X.pn ++ pins, p.1 ≠ b) :
   Inv X pins σ H' { s with heap := h', gens := g', drawn := d', toks := t' } := by
 obtain ⟨m, ⟨o, es, ep, ho, r⟩, _⟩ := id I.loc
 obtain ⟨sl, hL⟩ := u.any ho I.free fun z => (hch _ z).2.1 rfl
 exact I.step (ch := ch) hch (fun b o hL hb hc e n => u.keep b o e n (fun z => (List.mem_cons.mp (I.stkSub b z)).elim hL hb) hc) (fun b o _ _ hc e n => u.any e n hc) (fun b o hc e n => u.free b o e n hc) (fun b o hc e => u.there b o e hc) u.tups u.frzs u.tbls (fun m' hm => by
   obtain ⟨o', es', ep', ho', r'⟩ := hm
   rw [ho] at ho'; cases ho'
   exact ⟨_, es', ep', hL, r'⟩) hok hg
theorem Inv.turned {t' : Nat} {it : Addr} (I : Inv X pins σ H s) (k : ∀ b o, b ≠ it → s.heap.get? b = some o → h'.get? b = some o) (hn : H it = none) (hL : it ≠ X.env.locals)
   (h1 : it ∈ X.ex ∨ X.s₀.heap.objs.size ≤ it) (h2 : ∀ x c, X.env.cells.lookup x = some c → c ≠ it) (h3 : ∀ p ∈ X.pn ++ pins, p.1 ≠ it) : Inv X pins σ H { s with heap := h', toks := t' } := by
 have nit : ∀ b u, H b = some u → b ≠ it := fun b u e z => by rw [z, hn] at e; cases e
 refine I.step (g' := s.gens) (d' := s.drawn) (ch := [it]) (fun b hb => ?_) (fun b o _ _ hc e _ => k b o (fun z => hc (by simp [z])) e) (fun b o _ _ hc e _ => ⟨o.slots, k b o (fun z => hc (by simp [z])) e⟩) (fun _ _ _ _ n => n)
   (fun b o hc e => ⟨o, k b o (fun z => hc (by simp [z])) e⟩) (fun _ _ e => e) (fun _ _ _ e => e) (fun b ps e => ⟨#[], by rw [e]; simp⟩) (fun m hm => ?_) (fun b u e => ?_) I.bare
 · have e : b = it := by simpa using hb
   subst e
   exact ⟨h1, hL, h2, h3⟩
 · obtain ⟨o, es, ep, ho, r⟩ := hm
   exact ⟨o, es, ep, k _ o (Ne.symm hL) ho, r⟩
 · refine (I.hok b u e).stay (fun c v hc q => k c v ?_ q) (fun _ q => q) fun _ _ q => q
   rcases hc with z | z
   · rw [z]; exact nit b u e
   · exact nit c _ z
theorem Inv.tok (I : Inv X pins σ H s) (t : Nat) : Inv X pins σ H { s with toks := t } := I.un (h' := s.heap) (t' := t) Un.refl I.hok
theorem Inv.kept {t' : Nat} (I : Inv X pins σ H s) (k : ∀ b u, s.heap.get? b = some u → h'.get? b = some u) : Inv X pins σ H { s with heap := h', toks := t' } := I.un (Un.kept k) (I.hok.kept k)
theorem Inv.laid {a : Addr} {o : HO} {t' : Nat} (I : Inv X pins σ H s) (k : ∀ b u, s.heap.get? b = some u → h'.get? b = some u) (hp : s.heap.objs.size ≤ a) (new : ObjOk X.prog X.w (upd H a o) h' a o) :
   Inv X pins σ (upd H a o) { s with heap := h', toks := t' } := I.un (Un.laid k hp (I.hok.fresh hp)) (I.hok.laid k hp new)
theorem Inv.write {x e : Addr} {o : HO} {t' : Nat} (I : Inv X pins σ H s) (mu : Mut (H x)) (he : e = x ∨ H e = some (.own x)) (k : ∀ b u, b ≠ e → s.heap.get? b = some u → h'.get? b = some u) (heo : ∃ u, h'.get? e = some u)
   (new : ObjOk X.prog X.w (upd H x o) h' x o) : Inv X pins σ (upd H x o) { s with heap := h', toks := t' } := I.un (Un.write mu he k heo) (I.hok.write mu he k heo new)
theorem Inv.weak {σ' : List (Option V)} (I : Inv X pins σ H s) (hl : σ'.length = σ.length) (w : ∀ (i : Nat) v, σ'[i]? = some (some v) → σ[i]? = some (some v)) : Inv X pins σ' H s :=
 ⟨I.ok, I.os, I.bare, I.base, let ⟨m, hn, hl'⟩ := I.loc; ⟨m, hn, fun i x v e1 e2 e3 => hl' i x v e1 (w i v e2) e3⟩, I.cell, I.free, I.freeC, I.pin, I.hok, hl.trans I.len⟩
theorem Inv.pins_of {pins' : List (Addr × Obj)} (I : Inv X pins σ H s) (h : ∀ p ∈ pins', s.heap.get? p.1 = some p.2 ∧ H p.1 = none ∧ p.1 ≠ X.env.locals ∧ p.1 ∉ X.fs ∧ ∀ v, p.2.data ≠ .cell v) : Inv X pins' σ H s :=
 ⟨I.ok, I.os, I.bare, I.base, I.loc, I.cell, I.free, I.freeC, fun p hp => (List.mem_append.mp hp).elim (fun z => I.pin p (List.mem_append_left _ z)) (h p), I.hok, I.len⟩
theorem nodup_ix {N : List Str} (hN : N.Nodup) {i j : Nat} {x : Str} (a : N[i]? = some x) (b : N[j]? = some x) : i = j := by
 obtain ⟨h1, e1⟩ := List.getElem?_eq_some_iff.mp a
 obtain ⟨h2, e2⟩ := List.getElem?_eq_some_iff.mp b
 exact (List.getElem_inj hN).mp (e1.trans e2.symm)
theorem store_ok2 {M : Model} {A : Around} {E : Value → Shared → Prop} {i : Nat} {x : Str} {v : V} {u : Value} {Q : Unit → Shared → Prop} (I : Inv X pins σ H s) (hN : X.N.Nodup) (hi : X.N[i]? = some x) (hx : Loc X.env.scope x) (r : RelV v u)
   (h : ∀ s', Inv X pins (σ.set i (some v)) H s' → (∃ a, Heap.SameBut a s.heap s'.heap ∧ (a = X.env.locals ∨ X.env.cells.lookup x = some a)) → Q () s') (hf : X.fn x = true ∨ X.env.scope.names.lookup x = some .local := by first | exact .inl rfl | exact .inr rfl | assumption) : wpAny M A (storeName X.env x u) Q E s := by
 obtain ⟨m, hn, hl⟩ := id I.loc
 have hcls : (X.env.scope.kind == .class || (X.env.scope.kind == .module && X.env.locals != X.env.globals)) = false := by rw [I.ok.kind]; rfl
 have hiσ : i < σ.length := by rw [I.len]; exact (List.getElem?_eq_some_iff.mp hi).1
 have cne := I.cne
 have tracked : ∀ {a : Addr} {h' : Heap}, (∃ o, s.heap.get? a = some o ∧ H a = none) → Heap.SameBut a s.heap h' → HOk X.prog X.w H h' := fun {a h'} ha hs b ob e => by
   obtain ⟨_, _, hfree⟩ := ha
   refine (I.hok b ob e).stay (fun c w' hc q => (hs.2 c ?_).trans q) (fun _ q => q) fun _ _ q => q
   rintro rfl
   rcases hc with rfl | hc
   · rw [hfree] at e; cases e
   · rw [hfree] at hc; cases hc
 rcases hx with hk | hk
 · refine wpAny_storeName_local hk hn (fun h' hn' hs => ?_) hcls
   obtain ⟨oL, _, _, hoL, _⟩ := id hn
   refine h _ ⟨I.ok, I.os, I.bare, ⟨fun b o e n hb hx => ?_, fun b o e n hb hx => ?_, I.base.free, fun b o e hx => ?_, I.base.tups, I.base.frzs, I.base.tbls⟩, ⟨_, hn', fun j y v' e1 e2 e3 => ?_⟩, fun y c e => ?_, I.free, I.freeC, fun p hp => ?_, tracked ⟨oL, hoL, I.free⟩ hs, by simpa using I.len⟩ ⟨_, hs, .inl rfl⟩
   · exact (hs.2 b (Nat.ne_of_lt (Nat.lt_of_lt_of_le (Heap.lt_size e) I.ok.above))).trans (I.base.keep b o e n hb hx)
   · obtain ⟨sl, e1⟩ := I.base.slot b o e n hb hx
     exact ⟨sl, (hs.2 b (Nat.ne_of_lt (Nat.lt_of_lt_of_le (Heap.lt_size e) I.ok.above))).trans e1⟩
   · obtain ⟨o', e1⟩ := I.base.there b o e hx
     exact ⟨o', (hs.2 b (Nat.ne_of_lt (Nat.lt_of_lt_of_le (Heap.lt_size e) I.ok.above))).trans e1⟩
   · by_cases hj : j = i
     · subst hj
       rw [hi] at e1; cases e1
       rw [List.getElem?_set_self hiσ] at e2
       cases e2
       exact ⟨u, r, .inl ⟨hk, by simp⟩⟩
     · rw [List.getElem?_set_ne (Ne.symm hj)] at e2
       obtain ⟨u', r', q⟩ := hl j y v' e1 e2 e3
       refine ⟨u', r', ?_⟩
       rcases q with ⟨k, e⟩ | ⟨k, c, e, z⟩
       · refine .inl ⟨k, ?_⟩
         have : y ≠ x := fun e => hj (nodup_ix hN e1 (e ▸ hi))
         simp [this, e]
       · exact .inr ⟨k, c, e, z.sameBut hs (cne y c e)⟩
   · obtain ⟨w', z⟩ := I.cell y c e
     exact ⟨w', z.sameBut hs (cne y c e)⟩
   · obtain ⟨e, n, ne, nf, d⟩ := I.pin p hp
     exact ⟨(hs.2 p.1 ne).trans e, n, ne, nf, d⟩
 · have hfn : X.fn x = true := by
     rcases hf with z | z
     · exact z
     · rw [z] at hk; cases hk
   obtain ⟨c, hc⟩ := I.ok.has x (.inl hk)
   obtain ⟨w', z⟩ := I.cell x c hc
   refine wpAny_storeName_cell I.ok.kind hk hc z (fun h' hc' hs => ?_)
   obtain ⟨oc, hoc, hocd⟩ := id z
   refine h { s with heap := h' } ⟨I.ok, I.os, I.bare, ⟨fun b o e n hb hx => ?_, fun b o e n hb hx => ?_, I.base.free, fun b o e hx => ?_, I.base.tups, I.base.frzs, I.base.tbls⟩, ⟨m, hn.sameBut hs (Ne.symm (cne x c hc)), fun j y v' e1 e2 e3 => ?_⟩, fun y c' e => ?_, I.free, I.freeC, fun p hp => ?_, tracked ⟨oc, hoc, I.freeC x c hc⟩ hs, by simpa using I.len⟩ ⟨c, hs, .inr hc⟩
   · exact (hs.2 b (Nat.ne_of_lt (Nat.lt_of_lt_of_le (Heap.lt_size e) (I.ok.cab x c hfn hc)))).trans (I.base.keep b o e n hb hx)
   · obtain ⟨sl, e1⟩ := I.base.slot b o e n hb hx
     exact ⟨sl, (hs.2 b (Nat.ne_of_lt (Nat.lt_of_lt_of_le (Heap.lt_size e) (I.ok.cab x c hfn hc)))).trans e1⟩
   · obtain ⟨o', e1⟩ := I.base.there b o e hx
     exact ⟨o', (hs.2 b (Nat.ne_of_lt (Nat.lt_of_lt_of_le (Heap.lt_size e) (I.ok.cab x c hfn hc)))).trans e1⟩
   · by_cases hj : j = i
     · subst hj
       rw [hi] at e1; cases e1
       rw [List.getElem?_set_self hiσ] at e2
       cases e2
       exact ⟨u, r, .inr ⟨.inl hk, c, hc, hc'⟩⟩
     · rw [List.getElem?_set_ne (Ne.symm hj)] at e2
       obtain ⟨u', r', q⟩ := hl j y v' e1 e2 e3
       refine ⟨u', r', ?_⟩
       rcases q with q | ⟨k, c', e, z'⟩
       · exact .inl q
       · refine .inr ⟨k, c', e, z'.sameBut hs ?_⟩
         rintro rfl
         exact hj (nodup_ix hN e1 (I.ok.inj _ _ _ e hc ▸ hi))
   · by_cases hcc : c' = c
     · subst hcc; exact ⟨_, hc'⟩
     · obtain ⟨w2, z2⟩ := I.cell y c' e
       exact ⟨w2, z2.sameBut hs hcc⟩
   · obtain ⟨e, n, ne, nf, d⟩ := I.pin p hp
     refine ⟨(hs.2 p.1 ?_).trans e, n, ne, nf, d⟩
     intro q
     rw [q, hoc] at e
     have q' : oc = p.2 := Option.some.inj e
     exact d w' (by rw [← q']; exact hocd)
theorem store_ok {M : Model} {A : Around} {E : Value → Shared → Prop} {i : Nat} {x : Str} {v : V} {u : Value} {Q : Unit → Shared → Prop} (I : Inv X pins σ H s) (hN : X.N.Nodup) (hi : X.N[i]? = some x) (hx : Loc X.env.scope x) (r : RelV v u)
   (h : ∀ s', Inv X pins (σ.set i (some v)) H s' → Q () s') (hf : X.fn x = true ∨ X.env.scope.names.lookup x = some .local := by first | exact .inl rfl | exact .inr rfl | assumption) : wpAny M A (storeName X.env x u) Q E s :=
 store_ok2 I hN hi hx r (fun s' I' _ => h s' I') hf
theorem Inv.call' {s' : Shared} {ch : List Addr} (I : Inv X pins σ H s) (ho : s'.os = s.os) (u : Un (frs X.stack) ch H H' s.heap s'.heap) (hok : HOk X.prog X.w H' s'.heap) (hg : AllBare s'.gens)
   (hch : ∀ b ∈ ch, (b ∈ X.ex ∨ X.s₀.heap.objs.size ≤ b) ∧ b ≠ X.env.locals ∧ (∀ x c, X.env.cells.lookup x = some c → c ≠ b) ∧ ∀ p ∈ X.pn ++ pins, p.1 ≠ b) : Inv X pins σ H' s' := by
 obtain ⟨h', g', d', t', o'⟩ := s'
 have e : o' = s.os := ho
 subst e
 exact I.call (g' := g') (t' := t') (d' := d') u hok hg hch
end
abbrev XK := Value → Option Addr → Hp → Prop
abbrev St := List (Option V)
abbrev VK := V → Hp → Prop
abbrev TE := St → Hp → VK → Prop
abbrev TT := St → Hp → (Bool → Hp → Prop) → Prop
abbrev TA := St → Hp → (List V → Hp → Prop) → Prop
structure Ends where
 nx : St → Hp → Prop
 rt : VK
 bk : St → Hp → Prop := fun _ _ => False
 ct : St → Hp → Prop := fun _ _ => False
abbrev TS := Ends → St → Hp → Prop
def EP (X : Cx) (pins : List (Addr × Obj)) (σ : St) (Q : VK) (u : Value) (s' : Shared) : Prop := ∃ v H', Inv X pins σ H' s' ∧ RelV v u ∧ Q v H'
def TP (X : Cx) (pins : List (Addr × Obj)) (σ : St) (Q : Bool → Hp → Prop) (b : Bool) (s' : Shared) : Prop := ∃ H', Inv X pins σ H' s' ∧ Q b H'
def AP (X : Cx) (pins : List (Addr × Obj)) (σ : St) (Q : List V → Hp → Prop) (us : List Value) (s' : Shared) : Prop := ∃ vs H', Inv X pins σ H' s' ∧ Vals vs us ∧ Q vs H'
def SP (X : Cx) (pins : List (Addr × Obj)) (D : Ends) (f : Flow) (s' : Shared) : Prop :=
 match f with
 | .next => ∃ σ' H', Inv X pins σ' H' s' ∧ D.nx σ' H'
 | .brk => ∃ σ' H', Inv X pins σ' H' s' ∧ D.bk σ' H'
 | .cont => ∃ σ' H', Inv X pins σ' H' s' ∧ D.ct σ' H'
 | .ret u => ∃ v σ' H', Inv X pins σ' H' s' ∧ RelV v u ∧ D.rt v H'
def PE (X : Cx) (e : Expr) (t : TE) : Prop :=
 ∀ (pins : List (Addr × Obj)) (s : Shared) (σ : St) (H : Hp) (Q : VK), Inv X pins σ H s → t σ H Q → wpAny (model X.prog X.w) X.A (eval e X.env) (EP X pins σ Q) X.xe s
def PT (X : Cx) (e : Expr) (t : TT) : Prop :=
 ∀ (pins : List (Addr × Obj)) (s : Shared) (σ : St) (H : Hp) (Q : Bool → Hp → Prop), Inv X pins σ H s → t σ H Q → wpAny (model X.prog X.w) X.A (isTrue e X.env (eval e X.env)) (TP X pins σ Q) X.xe s
def PW (X : Cx) (e : Expr) (t : TT) : Prop :=
 ∀ (whole : Sem Value) (pins : List (Addr × Obj)) (s : Shared) (σ : St) (H : Hp) (Q : Bool → Hp → Prop), Inv X pins σ H s → t σ H Q → wpAny (model X.prog X.w) X.A (isTrue e X.env whole) (TP X pins σ Q) X.xe s
theorem PW.pt {X : Cx} {e : Expr} {t : TT} (h : PW X e t) : PT X e t := h _
def PA (X : Cx) (es : List Expr) (t : TA) : Prop :=
 ∀ (pos : Pos) (pins : List (Addr × Obj)) (s : Shared) (σ : St) (H : Hp) (Q : List V → Hp → Prop), Inv X pins σ H s → t σ H Q → wpAny (model X.prog X.w) X.A (spliced (backTo pos (starEach es X.env))) (AP X pins σ Q) X.xe s
def PS (X : Cx) (st : Stmt) (t : TS) : Prop :=
 ∀ (pins : List (Addr × Obj)) (s : Shared) (σ : St) (H : Hp) (D : Ends), Inv X pins σ H s → t D σ H → wpAny (model X.prog X.w) X.A (exec st X.env) (SP X pins D) X.xe s
def PSs (X : Cx) (st : List Stmt) (t : TS) : Prop :=
 ∀ (pins : List (Addr × Obj)) (s : Shared) (σ : St) (H : Hp) (D : Ends), Inv X pins σ H s → t D σ H → wpAny (model X.prog X.w) X.A (execs st X.env) (SP X pins D) X.xe s
theorem thn {α : Type} {t : Sem α} {Q Q' : α → Shared → Prop} {M : Model} {A : Around} {E : Value → Shared → Prop} {s : Shared} (h : wpAny M A t Q E s) (hQ : ∀ a s, Q a s → Q' a s) : wpAny M A t Q' E s := wpAny_mono h hQ fun _ _ x => x
end L2
namespace L2
open PySem PySem.Spec PyProof.Rows
section
variable {X : Cx}
def tVar (i : Nat) : TE := fun σ H Q => ∃ v, σ[i]? = some (some v) ∧ Q v H
def tC (v : V) : TE := fun _ H Q => Q v H
theorem pe_var {i : Nat} {x : Str} {pos : Pos} (hN : X.N[i]? = some x) (hv : Vis X.env.scope x) (hd : (x == ("__debug__" : Str)) = false := by decide) (hcd : (x == ("__classdict__" : Str)) = false := by decide) : PE X (.Name x pos) (tVar i) := by
 intro pins s σ H Q I h
 obtain ⟨v, e, h⟩ := h
 obtain ⟨m, hn, hl⟩ := I.loc
 obtain ⟨u, r, l⟩ := hl i x v hN e hv
 have fin : EP X pins σ Q u s := ⟨v, H, I, r, h⟩
 rcases l with ⟨hk, hm⟩ | ⟨hk, c, hc, hcell⟩
 · exact wpAny_Name (wpAny_loadName_local I.ok.kind hk hn hm fin) hd
 · rcases hk with hk | hk
   · exact wpAny_Name (wpAny_loadName_cell I.ok.kind hk hc hcell fin) hd
   · exact wpAny_Name (wpAny_loadName_free I.ok.kind hk hc hcell fin hcd) hd
theorem pe_int {i j pos} : PE X (.Constant (.int i) j pos) (tC (.int i)) := fun _ _ _ H _ I h => wpAny_Constant_int ⟨.int i, H, I.tok _, ⟨_, rfl⟩, h⟩
theorem pe_bl {b j pos} : PE X (.Constant (.bool b) j pos) (tC (.bl b)) := fun _ _ _ H _ I h => Constant_bool ⟨.bl b, H, I, rfl, h⟩
theorem pe_non {j pos} : PE X (.Constant .none j pos) (tC .non) := fun _ _ _ H _ I h => Constant_none ⟨.non, H, I, rfl, h⟩
theorem pe_str {x j pos} : PE X (.Constant (.str x) j pos) (tC (.str x)) := fun _ _ _ H _ I h => Calls.Constant_str ⟨.str x, H, I.tok _, ⟨_, rfl⟩, h⟩
def Gl (X : Cx) (x : Str) : Prop := X.env.kindOf x = some .globalImplicit
theorem ld_glob {E : Value → Shared → Prop} {pins : List (Addr × Obj)} {s : Shared} {σ : St} {H : Hp} {x : Str} {u : Value} {pos : Pos} {Q : Value → Shared → Prop} (I : Inv X pins σ H s) (hg : Gl X x) (hm : X.mg x = some u) (h : Q u s)
   (hd : (x == ("__debug__" : Str)) = false := by decide) : wpAny (model X.prog X.w) X.A (eval (.Name x pos) X.env) Q E s :=
 Calls.Name_function_global I.ok.kind hg (Calls.loadGlobal_global (by rw [I.ok.glob]; exact I.mod.glob.keeps I.bk) hm h) hd
theorem ld_blt {E : Value → Shared → Prop} {pins : List (Addr × Obj)} {s : Shared} {σ : St} {H : Hp} {x : Str} {u : Value} {pos : Pos} {Q : Value → Shared → Prop} (I : Inv X pins σ H s) (hg : Gl X x) (hm : X.mg x = none) (hv : bootBuiltins x = some u) (h : Q u s)
   (hn : x ≠ "__name__" := by decide) (hd : (x == ("__debug__" : Str)) = false := by decide) : wpAny (model X.prog X.w) X.A (eval (.Name x pos) X.env) Q E s := by
 obtain ⟨mb, h1, h2⟩ := I.mod.blt
 exact Calls.Name_function_global I.ok.kind hg (Calls.loadGlobal_builtin (by rw [I.ok.glob]; exact I.mod.glob.keeps I.bk) hm (by rw [I.ok.blt]; exact h1.keeps I.bk) ((h2 x hn).trans hv) h) hd
variable {a b : Expr} {ta tb : TE} {pos : Pos}
def tB (t : TE) : TT := fun σ H Q => t σ H fun x H1 => ∃ c, x = .bl c ∧ Q c H1
theorem pt_val {e : Expr} {t : TE} (h : PE X e t) (he : ∀ whole, isTrue e X.env whole = (do let v ← whole; standAt e.pos; holding [v] (truthy v)) := by intro _; rfl) : PT X e (tB t) := by
 intro pins s σ H Q I hw
 refine isTrue_plain (thn (h pins s σ H _ I hw) fun v s1 ⟨x, H1, I1, r1, q1⟩ => ?_) (he _)
 obtain ⟨d, rfl, q⟩ := q1
 cases r1
 exact wpAny_truthy_bool ⟨H1, I1, q⟩
variable {tA tB' : TT} {rest : List Expr}
def tAnd (t u : TT) : TT := fun σ H Q => t σ H fun c H1 => if c = true then u σ H1 Q else Q false H1
def tOr (t u : TT) : TT := fun σ H Q => t σ H fun c H1 => if c = true then Q true H1 else u σ H1 Q
def tNot (t : TT) : TT := fun σ H Q => t σ H fun c H1 => Q (!c) H1
theorem pw_and1 (ha : PT X a tA) : PW X (.BoolOp .And [a] pos) tA := by
 intro wh pins s σ H Q I h
 refine isTrue_and (thn (ha pins s σ H Q I h) fun c s1 e => ?_)
 cases c with
 | true => exact isTrue_and_nil e
 | false => exact e
theorem pw_or1 (ha : PT X a tA) : PW X (.BoolOp .Or [a] pos) tA := by
 intro wh pins s σ H Q I h
 refine isTrue_or (thn (ha pins s σ H Q I h) fun c s1 e => ?_)
 cases c with
 | false => exact isTrue_or_nil e
 | true => exact e
theorem pw_and (ha : PT X a tA) (hb : PW X (.BoolOp .And (b :: rest) pos) tB') : PW X (.BoolOp .And (a :: b :: rest) pos) (tAnd tA tB') := by
 intro wh pins s σ H Q I h
 refine isTrue_and (thn (ha pins s σ H _ I h) fun c s1 ⟨H1, I1, q1⟩ => ?_)
 cases c with
 | true => exact hb wh pins s1 σ H1 Q I1 q1
 | false => exact ⟨H1, I1, q1⟩
theorem pw_or (ha : PT X a tA) (hb : PW X (.BoolOp .Or (b :: rest) pos) tB') : PW X (.BoolOp .Or (a :: b :: rest) pos) (tOr tA tB') := by
 intro wh pins s σ H Q I h
 refine isTrue_or (thn (ha pins s σ H _ I h) fun c s1 ⟨H1, I1, q1⟩ => ?_)
 cases c with
 | true => exact ⟨H1, I1, q1⟩
 | false => exact hb wh pins s1 σ H1 Q I1 q1
theorem pt_not (ha : PT X a tA) : PT X (.UnaryOp .Not a pos) (tNot tA) := by
 intro pins s σ H Q I h
 exact isTrue_not (ha pins s σ H (fun c H1 => Q (!c) H1) I h)
end
end L2
namespace L2
open PySem PySem.Spec PyProof.Rows
def SqL (K : PySem.W.Frag) (H : Hp) (a : Addr) (xs : List V) : Prop :=
 Rd H a (.lst xs) ∨
   ∃ (o : Obj) (its : Array Value) (n : Nat), K.lookup a = some o ∧ o.cls = .type "list" ∧ o.dict = none ∧ o.data = .seq its n ∧ its.size ≤ sizeLine ∧ Vals xs its.toList
def SqT (K : PySem.W.Frag) (H : Hp) (a : Addr) (xs : List V) : Prop :=
 Rd H a (.tup xs) ∨
   ∃ (o : Obj) (its : Array Value) (n : Nat), K.lookup a = some o ∧ o.cls = .type "tuple" ∧ o.data = .seq its n ∧ its.size ≤ sizeLine ∧ Vals xs its.toList
def absV : Value → Option V
 | .none => some .non
 | .bool b => some (.bl b)
 | .int i _ => some (.int i)
 | .str x _ => some (.str x)
 | .bytes b _ => some (.byt b)
 | .float b _ => some (.flt b)
 | .ref a => some (.ref a)
 | .type n => some (.ty n)
 | _ => none
theorem RelV.abs {x : V} {u : Value} (r : RelV x u) : absV u = some x := by
 cases x with
 | non => cases r; rfl
 | bl _ => cases r; rfl
 | int _ => obtain ⟨t, rfl⟩ := r; rfl
 | str _ => obtain ⟨t, rfl⟩ := r; rfl
 | byt _ => obtain ⟨t, rfl⟩ := r; rfl
 | flt _ => obtain ⟨t, rfl⟩ := r; rfl
 | ref _ => cases r; rfl
 | ty _ => cases r; rfl
theorem RelV.inj {x y : V} {u : Value} (r : RelV x u) (q : RelV y u) : x = y := Option.some.inj (r.abs.symm.trans q.abs)
theorem Vals.inj : ∀ {xs ys : List V} {us : List Value}, Vals xs us → Vals ys us → xs = ys
 | _, _, _, .nil, .nil => rfl
 | _, _, _, .cons r t, .cons r' t' => by rw [r.inj r', Vals.inj t t']
section
variable {X : Cx} {pins : List (Addr × Obj)} {σ : St} {H : Hp} {s : Shared} {a : Addr} {xs ys : List V}
theorem SqL.of {K : PySem.W.Frag} (h : H a = some (.lst xs)) : SqL K H a xs := .inl (.inl h)
theorem SqT.of {K : PySem.W.Frag} (h : H a = some (.tup xs)) : SqT K H a xs := .inl (.inl h)
theorem Inv.list (I : Inv X pins σ H s) (h : SqL X.K H a xs) : ∃ its : List Value, Vals xs its ∧ PlainL s.heap a its.toArray ∧ xs.length ≤ sizeLine := by
 rcases h with h | ⟨o, its, n, hk, hc, hd, hs, hz, r⟩
 · obtain ⟨z, its, n, r, e⟩ := h.ok I.hok
   exact ⟨its, r, ⟨_, n, e, rfl, rfl, rfl⟩, z⟩
 · refine ⟨its.toList, r, ⟨o, n, I.kIn a o hk, hc, hd, by simpa using hs⟩, ?_⟩
   have e := r.length
   simp only [Array.length_toList] at e
   omega
theorem Inv.tuple (I : Inv X pins σ H s) (h : SqT X.K H a xs) : ∃ its : List Value, Vals xs its ∧ IsTup s.heap a its.toArray ∧ xs.length ≤ sizeLine := by
 rcases h with h | ⟨o, its, n, hk, hc, hs, hz, r⟩
 · obtain ⟨z, its, r, p⟩ := h.ok I.hok
   exact ⟨its, r, p, z⟩
 · refine ⟨its.toList, r, ⟨o, I.kIn a o hk, hc, n, by simpa using hs⟩, ?_⟩
   have e := r.length
   simp only [Array.length_toList] at e
   omega
theorem Inv.list_inj (I : Inv X pins σ H s) (h : SqL X.K H a xs) (h' : SqL X.K H a ys) : xs = ys := by
 obtain ⟨its, r, ⟨o, n, e, _, _, d⟩, _⟩ := I.list h
 obtain ⟨its', r', ⟨o', n', e', _, _, d'⟩, _⟩ := I.list h'
 rw [e] at e'; cases e'
 rw [d] at d'
 injection d' with d1 _
 have : its = its' := by simpa using congrArg Array.toList d1
 subst this
 exact r.inj r'
end
abbrev Cx.wish (X : Cx) (E : Value → Shared → Prop) : Cx := { X with xe := E }
abbrev Cx.nox (X : Cx) : Cx := X.wish fun _ _ => False
theorem Cx.Ok.wish {X : Cx} (ok : X.Ok) (E : Value → Shared → Prop) : (X.wish E).Ok :=
 ⟨ok.mod, ok.kind, ok.glob, ok.blt, ok.above, ok.inj, ok.has, ok.cab, ok.hd, ok.frames, ok.stk, ok.exf, ok.bs, ok.bsz, ok.noex, ok.exfs, ok.funs, ok.frf⟩
theorem Cx.Ok.unwish {X : Cx} {E : Value → Shared → Prop} (ok : (X.wish E).Ok) : X.Ok :=
 ⟨ok.mod, ok.kind, ok.glob, ok.blt, ok.above, ok.inj, ok.has, ok.cab, ok.hd, ok.frames, ok.stk, ok.exf, ok.bs, ok.bsz, ok.noex, ok.exfs, ok.funs, ok.frf⟩
section
variable {X : Cx} {pins : List (Addr × Obj)} {σ : St} {H : Hp} {s : Shared} {E : Value → Shared → Prop}
theorem Inv.wish (I : Inv X pins σ H s) (E : Value → Shared → Prop) : Inv (X.wish E) pins σ H s := ⟨I.ok.wish E, I.os, I.bare, I.base, I.loc, I.cell, I.free, I.freeC, I.pin, I.hok, I.len⟩
theorem Inv.unwish (I : Inv (X.wish E) pins σ H s) : Inv X pins σ H s := ⟨I.ok.unwish, I.os, I.bare, I.base, I.loc, I.cell, I.free, I.freeC, I.pin, I.hok, I.len⟩
theorem SP.unwish {D : Ends} {f : Flow} {s' : Shared} (h : SP (X.wish E) pins D f s') : SP X pins D f s' := by
 cases f with
 | next => obtain ⟨σ', H', I, q⟩ := h; exact ⟨σ', H', I.unwish, q⟩
 | brk => obtain ⟨σ', H', I, q⟩ := h; exact ⟨σ', H', I.unwish, q⟩
 | cont => obtain ⟨σ', H', I, q⟩ := h; exact ⟨σ', H', I.unwish, q⟩
 | ret u => obtain ⟨v, σ', H', I, r, q⟩ := h; exact ⟨v, σ', H', I.unwish, r, q⟩
theorem PSs.nox {st : List Stmt} {t : TS} (h : PSs X.nox st t) : PSs X st t := fun pins s σ H D I hw =>
 wpAny_mono (h pins s σ H D (I.wish _) hw) (fun _ _ q => q.unwish) fun _ _ z => False.elim z
end
section
variable {X : Cx} {st : Stmt} {rest : List Stmt} {t u : TS} {e : Expr} {te : TE} {pos : Pos}
def tNext : TS := fun D σ H => D.nx σ H
def tSeq (t u : TS) : TS := fun D σ H => t { D with nx := u D } σ H
theorem pss_nil : PSs X [] tNext := fun _ _ σ H _ I h => wpAny_execs_nil ⟨σ, H, I, h⟩
theorem pss_cons (h1 : PS X st t) (h2 : PSs X rest u) : PSs X (st :: rest) (tSeq t u) := by
 intro pins s σ H D I h
 refine wpAny_execs_cons (thn (h1 pins s σ H { D with nx := u D } I h) fun f s1 q => ?_)
 cases f with
 | next =>
   obtain ⟨σ', H', I', q⟩ := q
   exact h2 pins s1 σ' H' D I' q
 | ret v => exact q
 | brk => exact q
 | cont => exact q
theorem pss_one (h1 : PS X st t) : PSs X [st] t := by
 intro pins s σ H D I h
 refine wpAny_execs_cons (thn (h1 pins s σ H D I h) fun f s1 q => ?_)
 cases f with
 | next => exact wpAny_execs_nil q
 | ret v => exact q
 | brk => exact q
 | cont => exact q
theorem Inv.quiet {pins : List (Addr × Obj)} {σ : St} {H : Hp} {s : Shared} (I : Inv X pins σ H s) : interactive X.env = false := by simp [interactive, I.ok.kind]
def tDrop (te : TE) : TS := fun D σ H => te σ H fun _ H1 => D.nx σ H1
theorem ps_expr (he : PE X e te) (hs : swapsWith e none pos.line X.env = pure false := by rfl) : PS X (.Expr e pos) (tDrop te) := by
 intro pins s σ H D I h
 exact wpAny_Expr_any (thn (he pins s σ H _ I h) fun v s1 ⟨x, H1, I1, r1, q1⟩ => ⟨σ, H1, I1, q1⟩) I.quiet hs
def tRet (te : TE) : TS := fun D σ H => te σ H D.rt
theorem ps_ret (he : PE X e te) : PS X (.Return (some e) pos) (tRet te) := by
 intro pins s σ H D I h
 exact wpAny_Return_some (thn (he pins s σ H _ I h) fun v s1 ⟨x, H1, I1, r1, q1⟩ => ⟨x, σ, H1, I1, r1, q1⟩)
def tIfS (c : TT) (t u : TS) : TS := fun D σ H => c σ H fun b H1 => if b = true then t D σ H1 else u D σ H1
theorem ps_if {c : Expr} {a b : List Stmt} {tc : TT} (hc : PT X c tc) (ha : PSs X a t) (hb : PSs X b u) : PS X (.If c a b pos) (tIfS tc t u) := by
 intro pins s σ H D I h
 refine wpAny_If (thn (hc pins s σ H _ I h) fun d s1 ⟨H1, I1, q1⟩ => ?_)
 cases d with
 | true => exact ha pins s1 σ H1 D I1 q1
 | false => exact hb pins s1 σ H1 D I1 q1
end
abbrev TG := V → St → Hp → (St → Hp → Prop) → Prop
abbrev TGs := List V → St → Hp → (St → Hp → Prop) → Prop
def PG (X : Cx) (target : Expr) (t : TG) : Prop :=
 ∀ (pins : List (Addr × Obj)) (s : Shared) (σ : St) (H : Hp) (v : V) (u : Value) (Q : St → Hp → Prop), Inv X pins σ H s → RelV v u → t v σ H Q →
   wpAny (model X.prog X.w) X.A (assign target X.env u) (fun _ s' => ∃ σ' H', Inv X pins σ' H' s' ∧ Q σ' H') X.xe s
def PGs (X : Cx) (ts : List Expr) (t : TGs) : Prop :=
 ∀ (pins : List (Addr × Obj)) (s : Shared) (σ : St) (H : Hp) (vs : List V) (us : List Value) (Q : St → Hp → Prop), Inv X pins σ H s → Vals vs us → t vs σ H Q →
   wpAny (model X.prog X.w) X.A (assignInOrder ((assignEach ts X.env).map (·.2)) us) (fun _ s' => ∃ σ' H', Inv X pins σ' H' s' ∧ Q σ' H') X.xe s
section
variable {X : Cx} {pos : Pos}
def gName (i : Nat) : TG := fun v σ H Q => Q (σ.set i (some v)) H
theorem pg_name {i : Nat} {x : Str} (hN : X.N.Nodup) (hi : X.N[i]? = some x) (hx : Loc X.env.scope x) (hf : X.fn x = true ∨ X.env.scope.names.lookup x = some .local := by first | exact .inl rfl | exact .inr rfl | assumption) : PG X (.Name x pos) (gName i) := by
 intro pins s σ H v u Q I r h
 exact wpAny_assign_Name (store_ok I hN hi hx r (fun s' I' => ⟨_, H, I', h⟩) hf)
def gNil : TGs := fun vs σ H Q => vs = [] ∧ Q σ H
def gCons (t : TG) (u : TGs) : TGs := fun vs σ H Q => ∃ v r, vs = v :: r ∧ t v σ H fun σ' H' => u r σ' H' Q
theorem pgs_nil : PGs X [] gNil := by
 intro pins s σ H vs us Q I r h
 obtain ⟨e, h⟩ := h
 subst e
 cases r
 exact assignInOrder_nil ⟨σ, H, I, h⟩
theorem pgs_cons {e : Expr} {es : List Expr} {t : TG} {u : TGs} (h1 : PG X e t) (h2 : PGs X es u)
   (hs : (assignEach (e :: es) X.env).map (·.2) = assign e X.env :: (assignEach es X.env).map (·.2) := by rfl) : PGs X (e :: es) (gCons t u) := by
 intro pins s σ H vs us Q I r h
 obtain ⟨v, vr, e1, h⟩ := h
 subst e1
 cases r with
 | cons r rr =>
   rw [hs]
   refine assignInOrder_cons (thn (h1 pins s σ H _ _ _ I r h) fun _ s1 ⟨σ1, H1, I1, q1⟩ => ?_)
   exact h2 pins s1 σ1 H1 _ _ Q I1 rr q1
def gTup (K : PySem.W.Frag) (n : Nat) (t : TGs) : TG := fun v σ H Q => ∃ a xs, v = .ref a ∧ SqT K H a xs ∧ xs.length = n ∧ t xs σ H Q
theorem pg_tup {es : List Expr} {k : Nat} {t : TGs} {n : Nat} (hc : X.calm = true) (h : PGs X es t)
   (hn : (assignEach es X.env).length = n := by rfl) (hst : (assignEach es X.env).findIdx? (·.1) = none := by rfl) : PG X (.Tuple es k pos) (gTup X.K n t) := by
 intro pins s σ H v u Q I r hw
 obtain ⟨a, xs, e1, hq, hl, hw⟩ := hw
 subst e1
 cases r
 obtain ⟨its, rv, ht, hz⟩ := I.tuple hq
 refine assign_Tuple_tuple (I.ok.hd hc) ht (by simp [hn, ← hl, rv.length]) hst fun h' hx => ?_
 have I1 : Inv X pins σ H { s with heap := h' } := I.kept (t' := s.toks) fun b o e => hx b o (Nat.ne_of_lt (Heap.lt_size e)) e
 exact h pins _ σ H xs _ Q I1 (by simpa using rv) hw
def tAsg (te : TE) (g : TG) : TS := fun D σ H => te σ H fun x H1 => g x σ H1 D.nx
theorem ps_set {i : Nat} {x : Str} {e : Expr} {te : TE} {pos' : Pos} (hN : X.N.Nodup) (hi : X.N[i]? = some x) (hx : Loc X.env.scope x) (he : PE X e te) (hs : swapsWith e (some (.Name x pos')) pos.line X.env = pure false := by rfl) (hf : X.fn x = true ∨ X.env.scope.names.lookup x = some .local := by first | exact .inl rfl | exact .inr rfl | assumption) :
   PS X (.Assign [.Name x pos'] e pos) (tAsg te (gName i)) := by
 intro pins s σ H D I h
 refine wpAny_Assign_Name (thn (he pins s σ H _ I h) fun v s1 ⟨y, H1, I1, r1, q1⟩ => ?_) hs
 exact store_ok I1 hN hi hx r1 (fun s2 I2 => ⟨_, H1, I2, q1⟩) hf
end
section
variable {X : Cx} {pos : Pos}
def tWhile (c : TT) (tb : TS) : TS := fun D σ H => ∃ W : Nat → St → Hp → Prop, (∃ m, W m σ H) ∧ ∀ m σ H, W m σ H →
 c σ H fun b H1 => if b = true then ∃ N : St → Hp → Prop, (∀ σ' H', N σ' H' → ∃ m', m' < m ∧ W m' σ' H') ∧ tb { D with nx := N, ct := N, bk := D.nx } σ H1 else D.nx σ H1
theorem ps_while {c : Expr} {body : List Stmt} {tc : TT} {tb : TS} (hp : PassesOwn (model X.prog X.w) X.A X.env X.xe) (hc : PT X c tc) (hb : PSs X body tb) : PS X (.While c body [] pos) (tWhile tc tb) := by
 intro pins s σ H D I h
 obtain ⟨W, ⟨m0, w0⟩, turn⟩ := h
 refine wpAny_While (codeAny_whileLoop (fun n s' => ∃ σ' H', Inv X pins σ' H' s' ∧ W n σ' H') ?_ m0 ⟨σ, H, I, w0⟩)
 rintro n s1 ⟨σ1, H1, I1, w1⟩
 refine wpAny_passesOwn hp (thn (hc pins s1 σ1 H1 _ I1 (turn n σ1 H1 w1)) fun b s2 ⟨H2, I2, q2⟩ => ?_)
 cases b with
 | true =>
   obtain ⟨N, hN, q2⟩ := q2
   rw [if_pos rfl]
   refine wpAny_passesOwn hp (thn (hb pins s2 σ1 H2 _ I2 q2) fun f s3 q3 => ?_)
   cases f with
   | next =>
     obtain ⟨σ3, H3, I3, n3⟩ := q3
     obtain ⟨m', hm, w3⟩ := hN σ3 H3 n3
     exact ⟨m', hm, σ3, H3, I3, w3⟩
   | cont =>
     obtain ⟨σ3, H3, I3, n3⟩ := q3
     obtain ⟨m', hm, w3⟩ := hN σ3 H3 n3
     exact ⟨m', hm, σ3, H3, I3, w3⟩
   | brk => exact q3
   | ret v => exact q3
 | false =>
   rw [if_neg Bool.false_ne_true]
   exact wpAny_execs_nil ⟨σ1, H2, I2, q2⟩
end
structure It where
 go : Nat → Hp → Prop
 yld : Nat → Hp → V → Hp → Prop
 stop : Nat → Hp → Prop
def FpOk (X : Cx) (pins : List (Addr × Obj)) (H : Hp) (b : Addr) : Prop :=
 H b = none ∧ b ≠ X.env.locals ∧ b ∉ X.fs ∧ (b ∈ X.ex ∨ X.s₀.heap.objs.size ≤ b) ∧ (∀ x c, X.env.cells.lookup x = some c → c ≠ b) ∧ ∀ p ∈ X.pn ++ pins, p.1 ≠ b
theorem Inv.fpOk {X : Cx} {pins : List (Addr × Obj)} {σ : St} {H H' : Hp} {s : Shared} {b : Addr} (I : Inv X pins σ H s) (hb : s.heap.objs.size ≤ b) (hn : H' b = none) : FpOk X pins H' b := by
 refine ⟨hn, Nat.ne_of_gt (Nat.lt_of_lt_of_le I.lt hb), I.nofs hb, .inr (Nat.le_trans I.sz hb), fun x c e z => ?_, fun p hp z => ?_⟩
 · obtain ⟨v, q⟩ := I.cell x c e
   exact absurd (Nat.lt_of_lt_of_le q.lt (by rw [z]; exact hb)) (Nat.lt_irrefl _)
 · exact absurd (Nat.lt_of_lt_of_le (Heap.lt_size (I.pin p hp).1) (by rw [z]; exact hb)) (Nat.lt_irrefl _)
structure Turn (P : Program) (w : World) (K : PySem.W.Frag) (tg : Expr) (J : It) (fp : List Addr) (it : Addr) (tn : Nat → Heap → Prop) : Prop where
 mem : it ∈ fp
 obj : ∀ i h, tn i h → ∀ b ∈ fp, ∃ o, h.get? b = some o ∧ ∀ v, o.data ≠ .cell v
 keep : ∀ i h h', tn i h → (∀ b ∈ fp, ∀ o, h.get? b = some o → h'.get? b = some o) → tn i h'
 item : ∀ (X : Cx), X.prog = P → X.w = w → X.K = K → X.calm = true → ∀ (i : Nat) (pins : List (Addr × Obj)) (s : Shared) (σ : St) (H : Hp) (E : Value → Shared → Prop), Inv X pins σ H s → (∀ b ∈ fp, FpOk X pins H b) → tn i s.heap → J.go i H →
   wpAny (model P w) X.A (pyNext (.ref it)) (fun r s1 => ∃ u, r = some u ∧
     wpAny (model P w) X.A (letOwnedTupleGo tg (.ref it) u) (fun _ s2 => ∃ x H', Inv X pins σ H' s2 ∧ RelV x u ∧ J.yld i H x H' ∧ tn (i + 1) s2.heap ∧ ∀ b ∈ fp, H' b = none) E s1) E s
 done : ∀ (X : Cx), X.prog = P → X.w = w → X.K = K → X.calm = true → ∀ (i : Nat) (pins : List (Addr × Obj)) (s : Shared) (σ : St) (H : Hp) (E : Value → Shared → Prop), Inv X pins σ H s → (∀ b ∈ fp, FpOk X pins H b) → tn i s.heap → J.stop i H →
   wpAny (model P w) X.A (pyNext (.ref it)) (fun r s1 => r = none ∧ Inv X pins σ H s1) E s
 self : ∀ (A : Around) (i : Nat) (s : Shared) (Q : Value → Shared → Prop) (E : Value → Shared → Prop), tn i s.heap → Q (.ref it) s → wpAny (model P w) A (pyIter (.ref it)) Q E s
abbrev TI := St → Hp → (It → Hp → Prop) → Prop
def PIE (X : Cx) (pins : List (Addr × Obj)) (σ : St) (tg : Expr) (R : It → Hp → Prop) (itv : Value) (s2 : Shared) : Prop :=
 ∃ (it : Addr) (fp : List Addr) (tn : Nat → Heap → Prop) (J : It) (H' : Hp), itv = .ref it ∧ Inv X pins σ H' s2 ∧ Turn X.prog X.w X.K tg J fp it tn ∧ tn 0 s2.heap ∧ (∀ b ∈ fp, FpOk X pins H' b) ∧ R J H'
def PI (X : Cx) (tg iter : Expr) (wi : TI) : Prop :=
 ∀ (pins : List (Addr × Obj)) (s : Shared) (σ : St) (H : Hp) (R : It → Hp → Prop), Inv X pins σ H s → wi σ H R →
   wpAny (model X.prog X.w) X.A (eval iter X.env) (fun v s1 => wpAny (model X.prog X.w) X.A (pyIter v) (PIE X pins σ tg R) X.xe s1) X.xe s
theorem go_of {M : Model} {A : Around} {E : Value → Shared → Prop} {s : Shared} {tg : Expr} {it : Addr} {u : Value} {o : Obj} {n : String} {vs : Array Value} {Q : Unit → Shared → Prop} (ho : s.heap.get? it = some o) (hc : o.cls = .type n) (hd : o.data = .fields vs)
   (hn : ["enumerate", "zip", "dict_itemiterator", "dict_reverseitemiterator", "odict_iterator", "itertools.zip_longest", "itertools.pairwise"].contains n = false) (hQ : Q () s) : wpAny M A (letOwnedTupleGo tg (.ref it) u) Q E s := by
 unfold letOwnedTupleGo
 cases tg <;> first
   | exact wpAny_pure hQ
   | (cases u <;> first
       | exact wpAny_pure hQ
       | (refine wpAny_bind (wpAny_load ho ?_)
          rw [hc, hd]
          show wpAny M A (if (["enumerate", "zip", "dict_itemiterator", "dict_reverseitemiterator", "odict_iterator", "itertools.zip_longest", "itertools.pairwise"].contains n && vs[0]? == some (rawInt _)) = true then _ else _) Q E s
          rw [if_neg (by intro h; rw [hn, Bool.false_and] at h; cases h)]
          exact wpAny_pure hQ))
def Itl (K : PySem.W.Frag) (a : Addr) : It :=
 ⟨fun i H => ∃ xs x, SqL K H a xs ∧ xs[i]? = some x, fun i H x H' => H' = H ∧ ∀ xs, SqL K H a xs → xs[i]? = some x, fun i H => ∃ xs, SqL K H a xs ∧ xs.length ≤ i⟩
def Itr (lo : Int) (n : Nat) : It := ⟨fun i _ => i < n, fun i H x H' => H' = H ∧ x = .int (lo + i), fun i _ => n ≤ i⟩
theorem turn_list {P : Program} {w : World} {K : PySem.W.Frag} {tg : Expr} (a it : Addr) : Turn P w K tg (Itl K a) [it] it (fun i h => h.IsListIter it a i) where
 mem := by simp
 obj := fun i h st b hb => by
   have e : b = it := by simpa using hb
   subst e
   obtain ⟨o, e, c, d⟩ := st
   exact ⟨o, e, fun v z => by rw [d] at z; cases z⟩
 keep := fun i h h' st k => st.at fun o e => k it (by simp) o e
 item := by
   intro X hP hw hK hc i pins s σ H E I hf st hg
   subst hP hw hK
   obtain ⟨xs, x, hq, hx⟩ := hg
   obtain ⟨its, rv, p, hz⟩ := I.list hq
   obtain ⟨u, hu, ru⟩ := rv.get hx
   obtain ⟨f0, f1, f2, f3, f4, f5⟩ := hf it (by simp)
   refine wpAny_pyNext_list_item st p.isList (x := u) (by simpa using hu) fun h' st' sb => ?_
   have I1 : Inv X pins σ H { s with heap := h' } := I.turned (t' := s.toks) (fun b o hb e => (sb.2 b hb).trans e) f0 f1 f3 f4 f5
   obtain ⟨o, e, c, d⟩ := id st'
   exact ⟨u, rfl, go_of (s := { s with heap := h' }) e c d (by decide) ⟨x, H, I1, ru, ⟨rfl, fun ys hy => by rw [I.list_inj hy hq]; exact hx⟩, st', fun b hb => (hf b hb).1⟩⟩
 done := by
   intro X hP hw hK hc i pins s σ H E I hf st hg
   subst hP hw hK
   obtain ⟨xs, hq, hx⟩ := hg
   obtain ⟨its, rv, p, hz⟩ := I.list hq
   obtain ⟨f0, f1, f2, f3, f4, f5⟩ := hf it (by simp)
   have hl := rv.length
   exact wpAny_pyNext_list_end (I.ok.hd hc) st p.isList (by simp; omega) fun h' eb => ⟨rfl, I.turned (t' := s.toks) (fun b o hb e => eb b o hb e) f0 f1 f3 f4 f5⟩
 self := fun _ _ _ _ _ st h => wpAny_pyIter_listiter st h
theorem turn_range {P : Program} {w : World} {K : PySem.W.Frag} {tg : Expr} (it : Addr) (lo : Int) (n : Nat) : Turn P w K tg (Itr lo n) [it] it (fun i h => IsRangeIter h it (lo + (i : Nat) * 1) ((n : Int) - (i : Nat)) 1) where
 mem := by simp
 obj := fun i h st b hb => by
   have e : b = it := by simpa using hb
   subst e
   exact ⟨_, st, fun v z => by
     have z' : Data.fields _ = Data.cell v := z
     cases z'⟩
 keep := fun i h h' st k => k it (by simp) _ st
 item := by
   intro X hP hw hK hc i pins s σ H E I hf st hg
   subst hP hw hK
   obtain ⟨f0, f1, f2, f3, f4, f5⟩ := hf it (by simp)
   have W := Walks.range (prog := X.prog) (w := X.w) (I.ok.hd hc) it lo 1 n
   refine W.item i s _ _ hg st fun v h' tk hv st' kk => ?_
   obtain ⟨t, rfl⟩ := hv
   have I1 : Inv X pins σ H { s with heap := h', toks := tk } := I.turned (fun b o hb e => kk b o (by simpa using hb) e) f0 f1 f3 f4 f5
   refine ⟨_, rfl, go_of (s := { s with heap := h', toks := tk }) (n := "range_iterator") st' rfl rfl (by decide) ⟨.int (lo + i), H, I1, ⟨t, ?_⟩, ⟨rfl, rfl⟩, st', fun b hb => (hf b hb).1⟩⟩
   rw [Int.mul_one]
 done := by
   intro X hP hw hK hc i pins s σ H E I hf st hg
   subst hP hw hK
   obtain ⟨f0, f1, f2, f3, f4, f5⟩ := hf it (by simp)
   exact wpAny_pyNext_range_end (I.ok.hd hc) st (by have : n ≤ i := hg; omega) fun h' eb => ⟨rfl, I.turned (t' := s.toks) (fun b o hb e => eb b o hb e) f0 f1 f3 f4 f5⟩
 self := fun _ _ _ _ _ st h => wpAny_pyIter_rangeiter st h
end L2
namespace L2
open PySem PySem.Spec PyProof.Rows
section
variable {X : Cx} {tg : Expr}
def iList (K : PySem.W.Frag) (tl : TE) : TI := fun σ H R => tl σ H fun x H1 => ∃ a, x = .ref a ∧ (∃ xs, SqL K H1 a xs) ∧ R (Itl K a) H1
theorem pi_list {l : Expr} {tl : TE} (hl : PE X l tl) : PI X tg l (iList X.K tl) := by
 intro pins s σ H R I h
 refine thn (hl pins s σ H _ I h) fun v s1 ⟨x, H1, I1, r1, q1⟩ => ?_
 obtain ⟨a, e, ⟨xs, hq⟩, q⟩ := q1
 subst e
 cases r1
 obtain ⟨its, rv, p, hz⟩ := I1.list hq
 refine wpAny_pyIter_list p.isList ?_
 refine ⟨s1.heap.objs.size, [s1.heap.objs.size], _, _, H1, rfl, I1.kept (t' := s1.toks) fun b o e => Heap.get?_push_of_some _ e, turn_list a _, ⟨_, Heap.get?_push_size _ rfl, rfl, rfl⟩, fun b hb => ?_, q⟩
 have e : b = s1.heap.objs.size := by simpa using hb
 subst e
 exact I1.fpOk (Nat.le_refl _) (I1.hok.fresh (Nat.le_refl _))
theorem range_it {pins : List (Addr × Obj)} {σ : St} {H : Hp} {s : Shared} {R : It → Hp → Prop} {E : Value → Shared → Prop} {lo hi : Int} {t u v : Tok} {tk : Nat} (I : Inv X pins σ H s) (h1 : -(2 ^ 62) ≤ lo) (h2 : lo < 2 ^ 62) (h3 : -(2 ^ 62) ≤ hi) (h4 : hi < 2 ^ 62)
   (q : R (Itr lo (hi - lo).toNat) H) : wpAny (model X.prog X.w) X.A (pyIter (.ref s.heap.objs.size)) (PIE X pins σ tg R) E { s with heap := s.heap.push { cls := .type "range", data := .fields #[.int lo t, .int hi u, .int 1 v] }, toks := tk } := by
 refine wpAny_pyIter_range (IsRange.new ..) (small_one h1 h2 h3 h4) ?_
 have I1 : Inv X pins σ H { s with heap := s.heap.push { cls := .type "range", data := .fields #[.int lo t, .int hi u, .int 1 v] }, toks := tk } := I.kept fun b o e => Heap.get?_push_of_some _ e
 refine ⟨(s.heap.push { cls := .type "range", data := .fields #[.int lo t, .int hi u, .int 1 v] }).objs.size, [(s.heap.push { cls := .type "range", data := .fields #[.int lo t, .int hi u, .int 1 v] }).objs.size], _, _, H, rfl,
   I1.kept (t' := tk) fun b o e => Heap.get?_push_of_some _ e, turn_range _ lo (hi - lo).toNat, ?_, fun b hb => ?_, q⟩
 · have e1 : lo + ((0 : Nat) : Int) * 1 = lo := by simp
   have e2 : (((hi - lo).toNat : Nat) : Int) - ((0 : Nat) : Int) = Builtin.Range.rangeSize lo hi 1 := by rw [rangeSize_one]; split <;> omega
   show IsRangeIter _ _ (lo + ((0 : Nat) : Int) * 1) ((((hi - lo).toNat : Nat) : Int) - ((0 : Nat) : Int)) 1
   rw [e1, e2]
   exact Heap.get?_push_size _ rfl
 · have e : b = (s.heap.push { cls := .type "range", data := .fields #[.int lo t, .int hi u, .int 1 v] }).objs.size := by simpa using hb
   subst e
   exact I1.fpOk (Nat.le_refl _) (I1.hok.fresh (Nat.le_refl _))
def iRng1 (ta : TA) : TI := fun σ H R => ta σ H fun vs H1 => ∃ j : Int, vs = [.int j] ∧ -(2 ^ 62) ≤ j ∧ j < 2 ^ 62 ∧ R (Itr 0 j.toNat) H1
theorem pi_range1 {a : Expr} {ta : TA} {p pos : Pos} (hg : Gl X "range") (hm : X.mg "range" = none) (ha : PA X [a] ta) (hs : starEach [a] X.env = [(false, eval a X.env)] := by rfl) : PI X tg (.Call (.Name "range" p) [a] [] pos) (iRng1 ta) := by
 intro pins s σ H R I h
 refine Call_ (ld_blt I hg hm boot_range (PyProof.Rows.callWith_type1 (thn (ha pos pins s σ H _ I h) fun us s1 ⟨vs, H1, I1, r1, q1⟩ => ?_) hs rfl))
 obtain ⟨j, e, q1, q2, q⟩ := q1
 subst e
 cases r1 with
 | cons r rr =>
   cases rr
   obtain ⟨t, rfl⟩ := r
   exact call_range_1 (range_it I1 (by omega) (by omega) q1 q2 (by simpa using q))
def tFor (wi : TI) (g : TG) (tb : TS) : TS := fun D σ H => wi σ H fun J H1 => ∃ W : Nat → Nat → St → Hp → Prop, (∃ m, W 0 m σ H1) ∧ ∀ i m σ H, W i m σ H →
 (J.stop i H ∧ D.nx σ H) ∨ (J.go i H ∧ ∃ N : St → Hp → Prop, (∀ σ' H', N σ' H' → ∃ m', m' < m ∧ W (i + 1) m' σ' H') ∧ ∀ x H', J.yld i H x H' → g x σ H' fun σ2 H2 => tb { D with nx := N, ct := N, bk := D.nx } σ2 H2)
def pinsAt (fp : List Addr) (h : Heap) : List (Addr × Obj) := fp.filterMap fun b => (h.get? b).map fun o => (b, o)
theorem mem_pinsAt {fp : List Addr} {h : Heap} {b : Addr} {o : Obj} (hb : b ∈ fp) (e : h.get? b = some o) : (b, o) ∈ pinsAt fp h := List.mem_filterMap.mpr ⟨b, hb, by rw [e]; rfl⟩
theorem of_pinsAt {fp : List Addr} {h : Heap} {p : Addr × Obj} (hp : p ∈ pinsAt fp h) : p.1 ∈ fp ∧ h.get? p.1 = some p.2 := by
 obtain ⟨b, hb, e⟩ := List.mem_filterMap.mp hp
 cases q : h.get? b with
 | none => rw [q] at e; cases e
 | some o =>
   rw [q] at e
   have e' : (b, o) = p := Option.some.inj e
   subst e'
   exact ⟨hb, q⟩
theorem Inv.pinned {pins : List (Addr × Obj)} {σ : St} {H : Hp} {s : Shared} {fp : List Addr} (I : Inv X pins σ H s) (hf : ∀ b ∈ fp, FpOk X pins H b) (ho : ∀ b ∈ fp, ∃ o, s.heap.get? b = some o ∧ ∀ v, o.data ≠ .cell v) : Inv X (pins ++ pinsAt fp s.heap) σ H s :=
 I.pins_of fun p hp => (List.mem_append.mp hp).elim (fun z => I.pin p (List.mem_append_right _ z)) fun z => by
   obtain ⟨hb, e⟩ := of_pinsAt z
   obtain ⟨f0, f1, f2, _⟩ := hf p.1 hb
   obtain ⟨o, e', d⟩ := ho p.1 hb
   rw [e] at e'; cases e'
   exact ⟨e, f0, f1, f2, d⟩
theorem Inv.unpinned {pins pl : List (Addr × Obj)} {σ : St} {H : Hp} {s : Shared} (I : Inv X (pins ++ pl) σ H s) : Inv X pins σ H s := I.pins_of fun p hp => I.pin p (List.mem_append_right _ (List.mem_append_left _ hp))
theorem ps_for {iter : Expr} {body : List Stmt} {wi : TI} {g : TG} {tb : TS} {pos : Pos} (hp : PassesOwn (model X.prog X.w) X.A X.env X.xe) (hc : X.calm = true) (hi : PI X tg iter wi) (hg : PG X tg g) (hb : PSs X body tb)
   (hs : ∀ x, foldedSetIterable iter X.env x = pure x := by intro _; rfl) : PS X (.For tg iter body [] pos) (tFor wi g tb) := by
 intro pins s σ H D I h
 refine wpAny_For (thn (hi pins s σ H _ I h) fun v s1 h1 => thn h1 fun itv s2 h2 => ?_) hs
 obtain ⟨it, fp, tn, J, H2, e, I2, T, st2, f2, W, ⟨m0, w0⟩, turn⟩ := h2
 subst e
 -- what stays true of the iterator's objects through the loop
 have stat : ∀ {H' : Hp}, (∀ b ∈ fp, H' b = none) → ∀ b ∈ fp, FpOk X pins H' b := fun hn b hb => ⟨hn b hb, (f2 b hb).2⟩
 refine codeAny_forLoop_any (fun n s' => ∃ i σ' H', Inv X pins σ' H' s' ∧ tn i s'.heap ∧ (∀ b ∈ fp, H' b = none) ∧ W i n σ' H') ?_ m0 ⟨0, σ, H2, I2, st2, fun b hb => (f2 b hb).1, w0⟩
 rintro n s3 ⟨i, σ3, H3, I3, st3, fr3, w3⟩
 rcases turn i n σ3 H3 w3 with ⟨stop, qn⟩ | ⟨go, N, hN, step⟩
 · refine wpAny_passesOwn hp (thn (T.done X rfl rfl rfl hc i pins s3 σ3 H3 X.xe I3 (stat fr3) st3 stop) fun r s4 ⟨hr, I4⟩ => ?_)
   subst hr
   exact wpAny_execs_nil ⟨σ3, H3, I4, qn⟩
 · refine wpAny_passesOwn hp (thn (T.item X rfl rfl rfl hc i pins s3 σ3 H3 X.xe I3 (stat fr3) st3 go) fun r s4 ⟨u, hr, h4⟩ => ?_)
   subst hr
   refine wpAny_passesOwn hp (thn h4 fun _ s5 ⟨x, H5, I5, r5, y5, st5, fr5⟩ => ?_)
   have I5' := I5.pinned (stat fr5) (T.obj _ _ st5)
   refine wpAny_passesOwn hp (thn (hg _ s5 σ3 H5 x u _ I5' r5 (step x H5 y5)) fun _ s6 ⟨σ6, H6, I6, q6⟩ => ?_)
   refine wpAny_passesOwn hp (thn (hb _ s6 σ6 H6 _ I6 q6) fun f s7 q7 => ?_)
   have again : ∀ {σ7 : St} {H7 : Hp}, Inv X (pins ++ pinsAt fp s5.heap) σ7 H7 s7 → N σ7 H7 → ∃ m, m < n ∧ ∃ i σ' H', Inv X pins σ' H' s7 ∧ tn i s7.heap ∧ (∀ b ∈ fp, H' b = none) ∧ W i m σ' H' := fun {σ7 H7} I7 n7 => by
     obtain ⟨m', hm, w7⟩ := hN σ7 H7 n7
     refine ⟨m', hm, i + 1, σ7, H7, I7.unpinned, T.keep _ _ _ st5 fun b hb o e => (I7.pin (b, o) (List.mem_append_right _ (List.mem_append_right _ (mem_pinsAt hb e)))).1, fun b hb => ?_, w7⟩
     obtain ⟨o, e, d⟩ := T.obj _ _ st5 b hb
     exact (I7.pin (b, o) (List.mem_append_right _ (List.mem_append_right _ (mem_pinsAt hb e)))).2.1
   cases f with
   | next => obtain ⟨σ7, H7, I7, n7⟩ := q7; exact again I7 n7
   | cont => obtain ⟨σ7, H7, I7, n7⟩ := q7; exact again I7 n7
   | brk => obtain ⟨σ7, H7, I7, q7⟩ := q7; exact ⟨σ7, H7, I7.unpinned, q7⟩
   | ret v => obtain ⟨x7, σ7, H7, I7, r7, q7⟩ := q7; exact ⟨x7, σ7, H7, I7.unpinned, r7, q7⟩
end
theorem for_list {K : PySem.W.Frag} {a : Addr} {xs : List V} {g : TG} {tb : TS} {D : Ends} {σ : St} {H : Hp} (Pv : Nat → St → Hp → Prop) (h0 : Pv 0 σ H) (hl : ∀ i σ H, i ≤ xs.length → Pv i σ H → SqL K H a xs)
   (hs : ∀ i x σ H, xs[i]? = some x → Pv i σ H → g x σ H fun σ2 H2 => tb { D with nx := Pv (i + 1), ct := Pv (i + 1), bk := D.nx } σ2 H2) (hd : ∀ σ H, Pv xs.length σ H → D.nx σ H) :
   ∃ W : Nat → Nat → St → Hp → Prop, (∃ m, W 0 m σ H) ∧ ∀ i m σ H, W i m σ H →
     ((Itl K a).stop i H ∧ D.nx σ H) ∨ ((Itl K a).go i H ∧ ∃ N : St → Hp → Prop, (∀ σ' H', N σ' H' → ∃ m', m' < m ∧ W (i + 1) m' σ' H') ∧ ∀ x H', (Itl K a).yld i H x H' → g x σ H' fun σ2 H2 => tb { D with nx := N, ct := N, bk := D.nx } σ2 H2) := by
 refine ⟨fun i m σ H => m = xs.length - i ∧ i ≤ xs.length ∧ Pv i σ H, ⟨xs.length, by simp, Nat.zero_le _, h0⟩, ?_⟩
 rintro i m σ H ⟨rfl, hi, p⟩
 have q := hl i σ H hi p
 by_cases hlt : i < xs.length
 · refine .inr ⟨⟨xs, xs[i], q, by simp [hlt]⟩, Pv (i + 1), fun σ' H' p' => ⟨xs.length - (i + 1), by omega, rfl, hlt, p'⟩, fun x H' y => ?_⟩
   obtain ⟨e, y⟩ := y
   subst e
   exact hs i x σ _ (y xs q) p
 · have e : i = xs.length := by omega
   subst e
   exact .inl ⟨⟨xs, q, Nat.le_refl _⟩, hd σ H p⟩
end L2
namespace L2
open PySem PySem.Spec PyProof.Rows
abbrev R2 := V → V → Hp → VK → Prop
def OpR (X : Cx) (f : Value → Value → Sem Value) (r : R2) : Prop :=
 ∀ (pins : List (Addr × Obj)) (s : Shared) (σ : St) (H : Hp) (x y : V) (v u : Value) (Q : VK), Inv X pins σ H s → RelV x v → RelV y u → r x y H Q →
   wpAny (model X.prog X.w) X.A (f v u) (EP X pins σ Q) X.xe s
def CallR (X : Cx) (f : Value) (r : List V → Hp → VK → Prop) : Prop :=
 ∀ (pins : List (Addr × Obj)) (s : Shared) (σ : St) (H : Hp) (xs : List V) (us : List Value) (Q : VK), Inv X pins σ H s → Vals xs us → r xs H Q →
   wpAny (model X.prog X.w) X.A (call f us) (EP X pins σ Q) X.xe s
def tOp (r : R2) (ta tb : TE) : TE := fun σ H Q => ta σ H fun x H1 => tb σ H1 fun y H2 => r x y H2 Q
def rI (C : Int → Int → Prop) (g : Int → Int → V) : R2 := fun x y H Q => ∃ i j, x = .int i ∧ y = .int j ∧ C i j ∧ Q (g i j) H
def rI0 (g : Int → Int → V) : R2 := fun x y H Q => ∃ i j, x = .int i ∧ y = .int j ∧ Q (g i j) H
section
variable {X : Cx} {a b c : Expr} {ta tb tc : TE} {pos : Pos}
theorem binT (ha : PE X a ta) (hb : PE X b tb) {pins : List (Addr × Obj)} {s : Shared} {σ : St} {H : Hp} {R : V → V → Hp → Prop} (I : Inv X pins σ H s)
   (h : ta σ H fun x H1 => tb σ H1 fun y H2 => R x y H2) {Q : Value → Shared → Prop} {f : Value → Value → Sem Value}
   (hf : ∀ v u s2 x y H2, Inv X pins σ H2 s2 → RelV x v → RelV y u → R x y H2 → wpAny (model X.prog X.w) X.A (f v u) Q X.xe s2) :
   wpAny (model X.prog X.w) X.A (eval a X.env) (fun v s₁ => wpAny (model X.prog X.w) X.A (eval b X.env) (fun u s₂ => wpAny (model X.prog X.w) X.A (f v u) Q X.xe s₂) X.xe s₁) X.xe s := by
 refine thn (ha pins s σ H _ I h) fun v s1 ⟨x, H1, I1, r1, q1⟩ => ?_
 refine thn (hb pins s1 σ H1 _ I1 q1) fun u s2 ⟨y, H2, I2, r2, q2⟩ => ?_
 exact hf v u s2 x y H2 I2 r1 r2 q2
theorem pe_op {op : Operator} {r : R2} (ho : OpR X (binaryOp op) r) (ha : PE X a ta) (hb : PE X b tb) : PE X (.BinOp a op b pos) (tOp r ta tb) := by
 intro pins s σ H Q I h
 exact wpAny_BinOp (binT ha hb I h fun v u s2 x y H2 I2 rx ry q => ho pins s2 σ H2 x y v u Q I2 rx ry q)
theorem opI {f : Value → Value → Sem Value} {C : Int → Int → Prop} {g : Int → Int → Int}
   (rule : ∀ (i j : Int) (t u : Tok) (s : Shared) (Q : Value → Shared → Prop) (E : Value → Shared → Prop), C i j → Q (.int (g i j) s.toks) { s with toks := s.toks + 1 } → wpAny (model X.prog X.w) X.A (f (.int i t) (.int j u)) Q E s) :
   OpR X f (rI C fun i j => .int (g i j)) := by
 intro pins s σ H x y v u Q I rx ry h
 obtain ⟨i, j, rfl, rfl, hc, q⟩ := h
 obtain ⟨t, rfl⟩ := rx
 obtain ⟨t', rfl⟩ := ry
 exact rule i j t t' s _ _ hc ⟨.int (g i j), H, I.tok _, ⟨_, rfl⟩, q⟩
theorem opI0 {f : Value → Value → Sem Value} {g : Int → Int → Int}
   (rule : ∀ (i j : Int) (t u : Tok) (s : Shared) (Q : Value → Shared → Prop) (E : Value → Shared → Prop), Q (.int (g i j) s.toks) { s with toks := s.toks + 1 } → wpAny (model X.prog X.w) X.A (f (.int i t) (.int j u)) Q E s) :
   OpR X f (rI0 fun i j => .int (g i j)) := by
 intro pins s σ H x y v u Q I rx ry h
 obtain ⟨i, j, rfl, rfl, q⟩ := h
 obtain ⟨t, rfl⟩ := rx
 obtain ⟨t', rfl⟩ := ry
 exact rule i j t t' s _ _ ⟨.int (g i j), H, I.tok _, ⟨_, rfl⟩, q⟩
theorem opB0 {f : Value → Value → Sem Value} {g : Int → Int → Bool}
   (rule : ∀ (i j : Int) (t u : Tok) (s : Shared) (Q : Value → Shared → Prop) (E : Value → Shared → Prop), Q (.bool (g i j)) s → wpAny (model X.prog X.w) X.A (f (.int i t) (.int j u)) Q E s) :
   OpR X f (rI0 fun i j => .bl (g i j)) := by
 intro pins s σ H x y v u Q I rx ry h
 obtain ⟨i, j, rfl, rfl, q⟩ := h
 obtain ⟨t, rfl⟩ := rx
 obtain ⟨t', rfl⟩ := ry
 exact rule i j t t' s _ _ ⟨.bl (g i j), H, I, rfl, q⟩
def CDiv (i j : Int) : Prop := 0 < j ∧ j < 1073741824
def CPow (i j : Int) : Prop := 0 ≤ j ∧ j ≤ 1000000 ∧ i.natAbs < 2 ^ 64
def CMul (i j : Int) : Prop := (-(2 ^ 64) < i ∧ i < 2 ^ 64) ∨ (-(2 ^ 64) < j ∧ j < 2 ^ 64)
theorem CMul.ok {i j : Int} (h : CMul i j) : IntMulOk i j := by
 rcases h with ⟨h1, h2⟩ | ⟨h1, h2⟩
 · exact .of_left (intBits_le_64 h1 h2)
 · exact .of_right (intBits_le_64 h1 h2)
theorem op_add : OpR X (binaryOp .Add) (rI0 fun i j => .int (i + j)) := opI0 fun _ _ _ _ _ _ _ q => add_int q
theorem op_sub : OpR X (binaryOp .Sub) (rI0 fun i j => .int (i - j)) := opI0 fun _ _ _ _ _ _ _ q => sub_int q
theorem op_mul : OpR X (binaryOp .Mult) (rI CMul fun i j => .int (i * j)) := opI fun _ _ _ _ _ _ _ hc q => mul_int q hc.ok
theorem op_fdiv : OpR X (binaryOp .FloorDiv) (rI CDiv fun i j => .int (i / j)) := opI fun i j _ _ _ _ _ hc q => by
 have h1 : (0 : Int) < j := hc.1
 have h2 : j < 1073741824 := hc.2
 exact floordiv_int (by omega) (by rw [Int.fdiv_eq_ediv_of_nonneg i (by omega)]; exact q) (.inl (PyProof.noPylong_small (by omega)))
theorem op_mod : OpR X (binaryOp .Mod) (rI (fun _ j => 0 < j) fun i j => .int (i % j)) := opI fun i j _ _ _ _ _ hc q => by
 have h1 : (0 : Int) < j := hc
 exact mod_int' (by omega) (by rw [Int.fmod_eq_emod_of_nonneg i (by omega)]; exact q)
theorem op_pow : OpR X (binaryOp .Pow) (rI CPow fun i j => .int (i ^ j.toNat)) := opI fun _ _ _ _ _ _ _ hc q => pow_int_small hc.1 hc.2.1 hc.2.2 q
end
def scal : V → V → Bool
 | .non, .non => true | .non, .int _ => true | .int _, .non => true | .non, .bl _ => true | .bl _, .non => true | .non, .str _ => true | .str _, .non => true
 | .int _, .int _ => true | .bl _, .bl _ => true | .str _, .str _ => true | .byt _, .byt _ => true
 | .int _, .str _ => true | .str _, .int _ => true | .bl _, .str _ => true | .str _, .bl _ => true
 | _, _ => false
def rEq : R2 := fun x y H Q => scal x y = true ∧ Q (.bl (decide (x = y))) H
theorem dec_int {i j : Int} : decide (V.int i = V.int j) = (i == j) := by
 rw [Bool.eq_iff_iff]
 simp
theorem dec_bl {i j : Bool} : decide (V.bl i = V.bl j) = (i == j) := by
 rw [Bool.eq_iff_iff]
 simp
theorem dec_str {i j : Str} : decide (V.str i = V.str j) = (i == j) := by
 rw [Bool.eq_iff_iff]
 simp
theorem dec_byt {i j : Array UInt8} : decide (V.byt i = V.byt j) = (i.toList == j.toList) := by
 rw [Bool.eq_iff_iff]
 cases i
 cases j
 simp
section
variable {X : Cx} {a b c : Expr} {ta tb tc : TE} {pos : Pos}
theorem fin_bl {pins : List (Addr × Obj)} {σ : St} {H : Hp} {s : Shared} {Q : VK} {k k' : Bool} (I : Inv X pins σ H s) (q : Q (.bl k) H) (e : k = k') : EP X pins σ Q (.bool k') s := by
 subst e
 exact ⟨.bl k, H, I, rfl, q⟩
theorem op_eq : OpR X (compareOp .Eq) rEq := by
 intro pins s σ H x y v u Q I rx ry h
 obtain ⟨hs, q⟩ := h
 cases x with
 | non =>
   cases rx
   cases y with
   | non => cases ry; exact PySem.EqNone.eq_none_none (fin_bl I q (by simp))
   | bl j => cases ry; exact PySem.EqNone.eq_none_bool (fin_bl I q (by simp))
   | int j => obtain ⟨t', rfl⟩ := ry; exact PySem.EqNone.eq_none_int (fin_bl I q (by simp))
   | str j => obtain ⟨t', rfl⟩ := ry; exact PySem.EqNone.eq_none_str (fin_bl I q (by simp))
   | _ => exact absurd (show false = true from hs) Bool.false_ne_true
 | bl i =>
   cases rx
   cases y with
   | non => cases ry; exact PySem.EqNone.eq_bool_none (fin_bl I q (by simp))
   | bl j => cases ry; exact eq_bool (fin_bl I q dec_bl)
   | str j => obtain ⟨t', rfl⟩ := ry; exact PySem.EqMixed.eq_bool_str (fin_bl I q (by simp))
   | _ => exact absurd (show false = true from hs) Bool.false_ne_true
 | int i =>
   obtain ⟨t, rfl⟩ := rx
   cases y with
   | non => cases ry; exact PySem.EqNone.eq_int_none (fin_bl I q (by simp))
   | int j => obtain ⟨t', rfl⟩ := ry; exact eq_int (fin_bl I q dec_int)
   | str j => obtain ⟨t', rfl⟩ := ry; exact PySem.EqMixed.eq_int_str (fin_bl I q (by simp))
   | _ => exact absurd (show false = true from hs) Bool.false_ne_true
 | str i =>
   obtain ⟨t, rfl⟩ := rx
   cases y with
   | non => cases ry; exact PySem.EqNone.eq_str_none (fin_bl I q (by simp))
   | bl j => cases ry; exact PySem.EqMixed.eq_str_bool (fin_bl I q (by simp))
   | int j => obtain ⟨t', rfl⟩ := ry; exact PySem.EqMixed.eq_str_int (fin_bl I q (by simp))
   | str j => obtain ⟨t', rfl⟩ := ry; exact eq_str (fin_bl I q dec_str)
   | _ => exact absurd (show false = true from hs) Bool.false_ne_true
 | byt i =>
   obtain ⟨t, rfl⟩ := rx
   cases y with
   | byt j => obtain ⟨t', rfl⟩ := ry; exact PySem.W.eq_bytes (fin_bl I q dec_byt)
   | _ => exact absurd (show false = true from hs) Bool.false_ne_true
 | _ => cases y <;> exact absurd (show false = true from hs) Bool.false_ne_true
theorem op_lt : OpR X (compareOp .Lt) (rI0 fun i j => .bl (decide (i < j))) := opB0 fun _ _ _ _ _ _ _ q => lt_int q
theorem op_gt : OpR X (compareOp .Gt) (rI0 fun i j => .bl (decide (j < i))) := opB0 fun _ _ _ _ _ _ _ q => gt_int q
theorem op_ge : OpR X (compareOp .GtE) (rI0 fun i j => .bl (decide (j ≤ i))) := opB0 fun _ _ _ _ _ _ _ q => ge_int q
theorem op_notN : OpR X (compareOp .IsNot) (fun x y H Q => y = .non ∧ Q (.bl (!decide (x = .non))) H) := by
 intro pins s σ H x y v u Q I rx ry h
 obtain ⟨rfl, q⟩ := h
 cases ry
 refine isnot_none_gen (fin_bl I q ?_)
 cases x <;> first
   | (cases rx; rfl)
   | (obtain ⟨t, rfl⟩ := rx; rfl)
theorem OpR.or {f : Value → Value → Sem Value} {r r' : R2} (h : OpR X f r) (h' : OpR X f r') : OpR X f (fun x y H Q => r x y H Q ∨ r' x y H Q) := by
 intro pins s σ H x y v u Q I rx ry q
 rcases q with q | q
 · exact h pins s σ H x y v u Q I rx ry q
 · exact h' pins s σ H x y v u Q I rx ry q
theorem nomark (b : Expr) {op : CmpOp} (h : op ≠ .In := by decide) (h2 : op ≠ .NotIn := by decide) : behindInMarks op b = false := by
 have e1 : (op == CmpOp.In) = false := by cases op <;> first | rfl | exact absurd rfl h
 have e2 : (op == CmpOp.NotIn) = false := by cases op <;> first | rfl | exact absurd rfl h2
 cases b <;> simp [behindInMarks, e1, e2]
theorem pe_cmpR {op : CmpOp} {r : R2} (ho : OpR X (compareOp op) r) (ha : PE X a ta) (hb : PE X b tb) (hm : behindInMarks op b = false) : PE X (.Compare a [op] [b] pos) (tOp r ta tb) := by
 intro pins s σ H Q I h
 exact wpAny_Compare1 (binT ha hb I h fun v u s2 x y H2 I2 rx ry q => ho pins s2 σ H2 x y v u Q I2 rx ry q) hm
def tTest (t : TE) : TT := fun σ H Q => t σ H fun x H' => ∃ k, x = .bl k ∧ Q k H'
theorem pt_cmpR {op : CmpOp} {r : R2} (ho : OpR X (compareOp op) r) (ha : PE X a ta) (hb : PE X b tb) (hm : behindInMarks op b = false) : PT X (.Compare a [op] [b] pos) (tTest (tOp r ta tb)) := by
 intro pins s σ H Q I h
 refine wpAny_isTrue_Compare1 (thn (ha pins s σ H _ I h) fun v s1 ⟨x, H1, I1, r1, q1⟩ => thn (hb pins s1 σ H1 _ I1 q1) fun u s2 ⟨y, H2, I2, r2, q2⟩ =>
   thn (ho pins s2 σ H2 x y v u _ I2 r1 r2 q2) fun c s3 ⟨z, H3, I3, r3, k, e, q3⟩ => ?_) hm
 subst e
 cases r3
 exact wpAny_truthy_bool ⟨H3, I3, q3⟩
theorem line63 : (sizeLine : Nat) < 2 ^ 63 := by rw [sizeLine_eq]; decide
theorem op_add_str : OpR X (binaryOp .Add) (fun x y H Q => ∃ i j, x = .str i ∧ y = .str j ∧ i.length + j.length ≤ sizeLine ∧ Q (.str (i ++ j)) H) := by
 intro pins s σ H x y v u Q I rx ry h
 obtain ⟨i, j, rfl, rfl, hz, q⟩ := h
 obtain ⟨t, rfl⟩ := rx
 obtain ⟨t', rfl⟩ := ry
 exact add_str (fun t' tk => ⟨.str (i ++ j), H, I.tok _, ⟨_, rfl⟩, q⟩) hz
theorem vals1 {x : V} {us : List Value} (r : Vals [x] us) : ∃ u, us = [u] ∧ RelV x u := by
 cases r with
 | cons r1 r2 => cases r2; exact ⟨_, rfl, r1⟩
theorem vals2 {x y : V} {us : List Value} (r : Vals [x, y] us) : ∃ u w', us = [u, w'] ∧ RelV x u ∧ RelV y w' := by
 cases r with
 | cons r1 r2 =>
   cases r2 with
   | cons r3 r4 => cases r4; exact ⟨_, _, rfl, r1, r3⟩
theorem call_max2 (hc : X.calm = true) : CallR X (.builtin "max") (fun xs H Q => ∃ i j, xs = [.int i, .int j] ∧ Q (.int (if j > i then j else i)) H) := by
 intro pins s σ H xs us Q I r h
 obtain ⟨i, j, rfl, q⟩ := h
 obtain ⟨u, w', rfl, ⟨t, rfl⟩, ⟨t', rfl⟩⟩ := vals2 r
 refine max_two_ints (I.ok.hd hc) fun h' tk k => ⟨_, H, I.kept k, ?_, q⟩
 by_cases hj : j > i
 · rw [if_pos hj, if_pos hj]; exact ⟨_, rfl⟩
 · rw [if_neg hj, if_neg hj]; exact ⟨_, rfl⟩
def LenV (K : PySem.W.Frag) (x : V) (H : Hp) (n : Nat) : Prop :=
 match x with
 | .str y => y.length ≤ sizeLine ∧ n = y.length
 | .byt y => y.size ≤ sizeLine ∧ n = y.size
 | .ref p => (∃ xs, SqL K H p xs ∧ n = xs.length) ∨ ∃ xs, SqT K H p xs ∧ n = xs.length
 | _ => False
theorem call_len : CallR X (.builtin "len") (fun xs H Q => ∃ x n, xs = [x] ∧ LenV X.K x H n ∧ Q (.int n) H) := by
 intro pins s σ H xs us Q I r h
 obtain ⟨x, n, rfl, e, q⟩ := h
 obtain ⟨u, rfl, rx⟩ := vals1 r
 have hl := line63
 have hs : sizeLine = 16777216 := sizeLine_eq
 cases x with
 | str y =>
   obtain ⟨t, rfl⟩ := rx
   obtain ⟨hy, e'⟩ : y.length ≤ sizeLine ∧ n = y.length := e
   subst e'
   exact len_str (by omega) ⟨.int _, H, I.tok _, ⟨_, rfl⟩, q⟩
 | byt y =>
   obtain ⟨t, rfl⟩ := rx
   obtain ⟨hy, e'⟩ : y.size ≤ sizeLine ∧ n = y.size := e
   subst e'
   exact PySem.W.len_bytes (by omega) ⟨.int _, H, I.tok _, ⟨_, rfl⟩, q⟩
 | ref p =>
   cases rx
   have e' : (∃ xs, SqL X.K H p xs ∧ n = xs.length) ∨ ∃ xs, SqT X.K H p xs ∧ n = xs.length := e
   rcases e' with ⟨xs, hx, e'⟩ | ⟨xs, hx, e'⟩
   · subst e'
     obtain ⟨its, r', pl, hz⟩ := I.list hx
     have hlen := r'.length
     exact Calls.call_len_list pl.isList (by simp only [List.size_toArray]; omega) ⟨.int xs.length, H, I.tok _, ⟨_, by simp only [List.size_toArray]; rw [hlen]⟩, q⟩
   · subst e'
     obtain ⟨its, r', pl, hz⟩ := I.tuple hx
     have hlen := r'.length
     exact len_tuple pl (by simp only [List.size_toArray]; omega) ⟨.int xs.length, H, I.tok _, ⟨_, by simp only [List.size_toArray]; rw [hlen]⟩, q⟩
 | _ => exact (show False from e).elim
end
end L2
namespace L2
open PySem PySem.Spec PyProof.Rows
theorem RelO.some_of {v : V} {o : Option Value} (r : RelO (some v) o) : ∃ u, o = some u ∧ RelV v u := by
 cases o with
 | none => exact (show False from r).elim
 | some u => exact ⟨u, rfl, r⟩
end L2
namespace L2
open PySem PySem.Spec PyProof.Rows
structure Room (k : Nat) (A : Around) : Prop where
 hd : A.handled = none
 dp : A.depth + 3 * k + 5 < recursionLimit
 un : A.units + 16 * k + 200 < cLine
 gd : A.guards = some []
theorem Room.mono {j k : Nat} {A : Around} (r : Room k A) (h : j ≤ k) : Room j A := ⟨r.hd, by have := r.dp; omega, by have := r.un; omega, r.gd⟩
theorem Room.deeper {k : Nat} {A : Around} (r : Room (k + 1) A) (env : Env) : Room k (A.deeper env) :=
 ⟨r.hd, by have := r.dp; show A.depth + 1 + 3 * k + 5 < _; omega, by have := r.un; show A.units + 3 + 16 * k + 200 < _; omega, r.gd⟩
theorem Room.depth {k : Nat} {A : Around} (r : Room k A) : A.depth < recursionLimit := by have := r.dp; omega
theorem Room.units {k : Nat} {A : Around} (r : Room k A) : A.units + 64 < cLine := by have := r.un; omega
def tNil : TA := fun _ H Q => Q [] H
def tCons (ta : TE) (tr : TA) : TA := fun σ H Q => ta σ H fun x H1 => tr σ H1 fun xs H2 => Q (x :: xs) H2
section
variable {X : Cx} {e : Expr} {es : List Expr} {te : TE} {t : TA} {pos : Pos}
theorem pa_nil : PA X [] tNil := fun _ _ _ _ H Q I h => Calls.spliced_nil ⟨[], H, I, .nil, h⟩
theorem pa_cons (ha : PE X e te) (hr : PA X es t) (hs : starEach (e :: es) X.env = (false, eval e X.env) :: starEach es X.env := by rfl) : PA X (e :: es) (tCons te t) := by
 intro pos pins s σ H Q I h
 rw [hs]
 show wpAny _ _ (spliced ((false, eval e X.env) :: backTo pos (starEach es X.env))) _ _ s
 refine Calls.spliced_cons (thn (ha pins s σ H _ I h) fun u s1 ⟨x, H1, I1, r1, q1⟩ => ?_)
 exact thn (hr pos pins s1 σ H1 _ I1 q1) fun us s2 ⟨xs, H2, I2, r2, q2⟩ => ⟨x :: xs, H2, I2, .cons r1 r2, q2⟩
def tTup (t : TA) : TE := fun σ H Q => t σ H fun xs H1 => xs.length ≤ sizeLine ∧ ∀ p, H1 p = none → Q (.ref p) (upd H1 p (.tup xs))
def tLst (t : TA) : TE := fun σ H Q => t σ H fun xs H1 => xs.length ≤ sizeLine ∧ ∀ p, H1 p = none → Q (.ref p) (upd H1 p (.lst xs))
theorem pe_tup {x1} (h : PA X es t) : PE X (.Tuple es x1 pos) (tTup t) := by
 intro pins s σ H Q I hq
 refine wpAny_Tuple_spliced (thn (h pos pins s σ H _ I hq) fun us s1 ⟨xs, H1, I1, r, z, q⟩ => ⟨by rw [← r.length]; exact z, ?_⟩)
 have hf : H1 s1.heap.objs.size = none := I1.hok.fresh (Nat.le_refl _)
 refine ⟨.ref s1.heap.objs.size, upd H1 s1.heap.objs.size (.tup xs), I1.laid (t' := s1.toks) (fun b u e => Heap.get?_push_of_some _ e) (Nat.le_refl _) ?_, rfl, q _ hf⟩
 exact ⟨z, us, r, ⟨_, Heap.get?_push_size _ rfl, rfl, _, rfl⟩⟩
theorem pe_lst (h : PA X es t) : PE X (.List es pos) (tLst t) := by
 intro pins s σ H Q I hq
 refine wpAny_List_spliced (thn (h pos pins s σ H _ I hq) fun us s1 ⟨xs, H1, I1, r, z, q⟩ => ⟨by rw [← r.length]; exact z, ?_⟩)
 have hf : H1 s1.heap.objs.size = none := I1.hok.fresh (Nat.le_refl _)
 refine ⟨.ref s1.heap.objs.size, upd H1 s1.heap.objs.size (.lst xs), I1.laid (t' := s1.toks) (fun b u e => Heap.get?_push_of_some _ e) (Nat.le_refl _) ?_, rfl, q _ hf⟩
 exact ⟨z, us, 0, r, Heap.get?_push_size _ rfl⟩
end
abbrev Sp := List V → Hp → VK → XK → Prop
abbrev CXT := List Env → Hp → Shared → XK → Value → Shared → Prop
structure Env0 (P : Program) (w : World) (K : PySem.W.Frag) (mg : Str → Option Value) (base : Heap) (A : Around) (outer : List Env) (s : Shared) (H : Hp) : Prop where
 frames : A.frames = some outer
 mod : Mod K mg base
 bs : ∀ b o, base.get? b = some o → s.heap.get? b = some o ∧ H b = none
 bsz : base.objs.size ≤ s.heap.objs.size
 funs : s.heap.FunFrames base outer
 frf : ∀ b ∈ frs outer, H b = none
 hok : HOk P w H s.heap
 bare : AllBare s.gens
def CE (outer : List Env) (P : Program) (w : World) (H : Hp) (s : Shared) (Q : VK) (u : Value) (s' : Shared) : Prop :=
 ∃ v H', s'.os = s.os ∧ AllBare s'.gens ∧ Un (frs outer) [] H H' s.heap s'.heap ∧ HOk P w H' s'.heap ∧ RelV v u ∧ Q v H'
def CR (CX : CXT) (outer : List Env) (P : Program) (w : World) (H : Hp) (s : Shared) (Q : VK) (E : XK) (r : Result) (s' : Shared) : Prop :=
 match r with
 | .ok (.ret u) => CE outer P w H s Q u s'
 | .ok _ => False
 | .error e => CX outer H s E e s'
structure FnOk (P : Program) (w : World) (K : PySem.W.Frag) (mg : Str → Option Value) (base : Heap) (CX : CXT) (k : Nat) (f : Addr) (fd : FuncData) (ps : List Str) (sp : Sp) : Prop where
 len : ∀ vs H Q E, sp vs H Q E → vs.length = ps.length
 run : ∀ (A : Around) (outer : List Env) (s : Shared) (H : Hp) (args : Args) (us : List Value) (vs : List V) (Q : VK) (E : XK), Room k A → Env0 P w K mg base A outer s H → BindsTo s fd args (ps.zip us) → Vals vs us → sp vs H Q E →
   codeAny (model P w) A (.call (.ref f) args) (CR CX outer P w H s Q E) s
theorem FnOk.mono {P : Program} {w : World} {K : PySem.W.Frag} {mg : Str → Option Value} {base : Heap} {CX : CXT} {j k : Nat} {f : Addr} {fd : FuncData} {ps : List Str} {sp : Sp} (F : FnOk P w K mg base CX j f fd ps sp) (h : j ≤ k) :
   FnOk P w K mg base CX k f fd ps sp := ⟨F.len, fun A outer s H args us vs Q E hr => F.run A outer s H args us vs Q E (hr.mono h)⟩
theorem Env0.in1 {P : Program} {w : World} {K : PySem.W.Frag} {mg : Str → Option Value} {base : Heap} {A : Around} {outer : List Env} {s : Shared} {H : Hp} (e : Env0 P w K mg base A outer s H) :
   Env0 P w K mg base A.in1 outer s H := ⟨e.frames, e.mod, e.bs, e.bsz, e.funs, e.frf, e.hok, e.bare⟩
section
variable {X : Cx} {pins : List (Addr × Obj)} {σ : St} {H : Hp} {s s' : Shared}
theorem Inv.env0 (I : Inv X pins σ H s) : Env0 X.prog X.w X.K X.mg X.base X.A X.stack s H :=
 ⟨I.ok.frames, I.ok.mod, I.bs, Nat.le_trans I.ok.bsz I.sz, I.stack, I.stkFree, I.hok, I.bare⟩
theorem Inv.after {Q : VK} {u : Value} (I : Inv X pins σ H s) (h : CE X.stack X.prog X.w H s Q u s') : EP X pins σ Q u s' := by
 obtain ⟨v, H', os, bare, un, hok, r, q⟩ := h
 obtain ⟨hh, g, d, t, os'⟩ := s'
 obtain rfl : os' = s.os := os
 exact ⟨v, H', I.call (h' := hh) (g' := g) (d' := d) (t' := t) (ch := []) un hok bare (fun b z => absurd z (by simp)), r, q⟩
end
def tCall (sp : Sp) (dvs : List V) (E : XK) (t : TA) : TE := fun σ H Q => t σ H fun vs H1 => sp (vs ++ dvs) H1 Q E
def Binds (K : PySem.W.Frag) (fd : FuncData) (ps : List Str) (ds : List Value) : Prop :=
 ∀ (s : Shared) (us : List Value), K.In s.heap → (us ++ ds).length = ps.length → BindsTo s fd ⟨us, []⟩ (ps.zip (us ++ ds))
theorem Binds.all {K : PySem.W.Frag} {fd : FuncData} {ps : List Str} (h : ∀ us : List Value, us.length = ps.length → bindArgs fd ⟨us, []⟩ = pure (ps.zip us)) : Binds K fd ps [] := fun s us _ hl => by
 rw [List.append_nil] at hl ⊢
 exact .of_eq (h us hl)
def Passes (CX : CXT) (X : Cx) (E : XK) : Prop := ∀ (pins : List (Addr × Obj)) (σ : St) (H : Hp) (s : Shared) (e : Value) (s' : Shared), Inv X pins σ H s → CX X.stack H s E e s' → X.xe e s'
section
variable {X : Cx} {CX : CXT} {k : Nat} {f C : Addr} {fd : FuncData} {ps : List Str} {sp : Sp} {dvs : List V} {ds : List Value} {E : XK} {x m : Str} {p pos apos : Pos} {e o : Expr} {es : List Expr} {ta : TE} {t : TA}
theorem run_fn {pins : List (Addr × Obj)} {σ : St} {H : Hp} {s : Shared} {Q : VK} {us : List Value} {vs : List V} (F : FnOk X.prog X.w X.K X.mg X.base CX k f fd ps sp) (hr : Room k X.A) (hb : Binds X.K fd ps ds) (hd : Vals dvs ds) (hx : Passes CX X E)
   (I : Inv X pins σ H s) (r : Vals vs us) (h : sp (vs ++ dvs) H Q E) : wpAny (model X.prog X.w) X.A (call (.ref f) us) (EP X pins σ Q) X.xe s := by
 have r2 : Vals (vs ++ dvs) (us ++ ds) := r.append hd
 have hl : (us ++ ds).length = ps.length := by rw [← r2.length]; exact F.len _ _ _ _ h
 refine wpAny_call (codeAny_mono (F.run X.A X.stack s H ⟨us, []⟩ (us ++ ds) (vs ++ dvs) Q E hr I.env0 (hb s us I.kIn hl) r2 h) fun r s' hq => ?_)
 cases r with
 | error e => exact hx pins σ H s e s' I hq
 | ok fl =>
   cases fl with
   | ret u => exact I.after hq
   | next => exact False.elim hq
   | brk => exact False.elim hq
   | cont => exact False.elim hq
theorem pe_call (F : FnOk X.prog X.w X.K X.mg X.base CX k f fd ps sp) (hr : Room k X.A) (hg : Gl X x) (hm : X.mg x = some (.ref f)) (hk : PySem.W.keepIn X.K (.ref f) = true) (hb : Binds X.K fd ps ds) (hd : Vals dvs ds) (hx : Passes CX X E)
   (ha : PA X (e :: es) t) (hdb : (x == ("__debug__" : Str)) = false := by decide) (he : starEach (e :: es) X.env = (false, eval e X.env) :: starEach es X.env := by rfl) (hpl : (backTo pos (starEach es X.env)).any (·.1) = false := by rfl) :
   PE X (.Call (.Name x p) (e :: es) [] pos) (tCall sp dvs E t) := by
 intro pins s σ H Q I h
 refine wpAny_Call_Name_kw (ld_glob I hg hm ?_ hdb)
 refine PySem.W.callWith_K (h₀ := X.base) I.ok.mod.kin hk (thn (ha pos pins s σ H _ I h) fun us s1 ⟨vs, H1, I1, r, q⟩ => ⟨I1.kIn, ?_⟩) he hpl
 exact run_fn F hr hb hd hx I1 r q
end
structure FnScope (N P : List Str) (sc : Scope) : Prop where
 kind : sc.kind = .function
 co : sc.isCoroutine = false
 gen : sc.isGenerator = false
 nd : N.Nodup
 pre : N.take P.length = P
 par : ∀ x ∈ P, sc.names.lookup x = some .local ∨ sc.names.lookup x = some .cell
 nofree : ∀ y ∈ sc.names, y.2 ≠ .free
theorem bindL_out {kindOf : Str → Option NameKind} {x : Str} : ∀ {binds : List (Str × Value)} {m : Str → Option Value}, (∀ v, (x, v) ∉ binds) → bindL kindOf binds m x = m x
 | [], _, _ => rfl
 | (n, v) :: r, m, h => by
   unfold bindL
   rw [bindL_out fun w hw => h w (List.mem_cons_of_mem _ hw)]
   split
   · have : x ≠ n := by rintro rfl; exact h v List.mem_cons_self
     simp [this]
   · rfl
theorem bindC_out {kindOf : Str → Option NameKind} {x : Str} : ∀ {binds : List (Str × Value)} {m : Str → Option Value}, (∀ v, (x, v) ∉ binds) → bindC kindOf binds m x = m x
 | [], _, _ => rfl
 | (n, v) :: r, m, h => by
   unfold bindC
   rw [bindC_out fun w hw => h w (List.mem_cons_of_mem _ hw)]
   split
   · rfl
   · have : x ≠ n := by rintro rfl; exact h v List.mem_cons_self
     simp [this]
theorem bindL_get {kindOf : Str → Option NameKind} {x : Str} {v : Value} : ∀ {P : List Str} {vs : List Value} {i : Nat} {m : Str → Option Value}, P.Nodup → P[i]? = some x → vs[i]? = some v → kindOf x = some .local →
   bindL kindOf (P.zip vs) m x = some v
 | [], _, _, _, _, h, _, _ => by simp at h
 | _ :: _, [], _, _, _, _, h, _ => by simp at h
 | p :: P, w :: vs, 0, m, nd, h1, h2, hk => by
   simp at h1 h2; subst h1; subst h2
   show bindL kindOf ((p, w) :: P.zip vs) m p = _
   unfold bindL
   rw [bindL_out fun v hv => (List.nodup_cons.mp nd).1 (List.of_mem_zip hv).1, if_pos hk]
   simp
 | p :: P, w :: vs, i + 1, m, nd, h1, h2, hk => by
   show bindL kindOf ((p, w) :: P.zip vs) m x = _
   unfold bindL
   exact bindL_get (i := i) (List.nodup_cons.mp nd).2 (by simpa using h1) (by simpa using h2) hk
theorem bindC_get {kindOf : Str → Option NameKind} {x : Str} {v : Value} : ∀ {P : List Str} {vs : List Value} {i : Nat} {m : Str → Option Value}, P.Nodup → P[i]? = some x → vs[i]? = some v → kindOf x ≠ some .local →
   bindC kindOf (P.zip vs) m x = some v
 | [], _, _, _, _, h, _, _ => by simp at h
 | _ :: _, [], _, _, _, _, h, _ => by simp at h
 | p :: P, w :: vs, 0, m, nd, h1, h2, hk => by
   simp at h1 h2; subst h1; subst h2
   show bindC kindOf ((p, w) :: P.zip vs) m p = _
   unfold bindC
   rw [bindC_out fun v hv => (List.nodup_cons.mp nd).1 (List.of_mem_zip hv).1, if_neg hk]
   simp
 | p :: P, w :: vs, i + 1, m, nd, h1, h2, hk => by
   show bindC kindOf ((p, w) :: P.zip vs) m x = _
   unfold bindC
   exact bindC_get (i := i) (List.nodup_cons.mp nd).2 (by simpa using h1) (by simpa using h2) hk
def start (N : List Str) (vs : List V) : St := vs.map some ++ List.replicate (N.length - vs.length) none
def cxOf (CX : CXT) (P : Program) (w : World) (K : PySem.W.Frag) (mg : Str → Option Value) (base : Heap) (N : List Str) (qual : Str) (scope : Scope) (f : Addr) (cd : Value) (A : Around) (outer : List Env) (s : Shared) (H : Hp) (E : XK) : Cx where
 prog := P
 w := w
 K := K
 mg := mg
 base := base
 A := A.deeper (envOfC qual scope s.heap.objs.size f cd)
 N := N
 s₀ := s
 H₀ := H
 env := envOfC qual scope s.heap.objs.size f cd
 outer := outer
 stack := envOfC qual scope s.heap.objs.size f cd :: outer
 ex := []
 calm := true
 fn := fun _ => true
 pn := []
 xe := fun e s' => wpAny (model P w) (A.deeper (envOfC qual scope s.heap.objs.size f cd)) (leaving (envOfC qual scope s.heap.objs.size f cd) e) (fun _ s'' => CX outer H s E e s'') (fun e' s'' => CX outer H s E e' s'') s'
theorem cell_has {sc : Scope} {n : Nat} {x : Str} (h : sc.names.lookup x = some .cell) : ∃ c, (cellsFrom n sc.names []).lookup x = some c := by
 have q := PySem.W.cellsFrom_some sc.names n [] (.inl h)
 exact Option.isSome_iff_exists.mp q
theorem inv_start {CX : CXT} {P : Program} {w : World} {K : PySem.W.Frag} {mg : Str → Option Value} {base : Heap} {N ps : List Str} {qual : Str} {scope : Scope} {f : Addr} {cd : Value} {A : Around} {outer : List Env} {s s1 : Shared} {H : Hp} {E : XK} {us : List Value} {vs : List V}
   (S : FnScope N ps scope) (hd : A.handled = none) (e0 : Env0 P w K mg base A outer s H) (hl : vs.length = ps.length) (r : Vals vs us)
   (x : InCallC s s.heap.objs.size (bindL (envOfC qual scope s.heap.objs.size f cd).kindOf (ps.zip us) fun _ => none) (cellsFrom (s.heap.objs.size + 1) scope.names []) (bindC (envOfC qual scope s.heap.objs.size f cd).kindOf (ps.zip us) fun _ => none) s1) :
   Inv (cxOf CX P w K mg base N qual scope f cd A outer s H E) [] (start N vs) H s1 := by
 have hpl : ps.length ≤ N.length := by have := congrArg List.length S.pre; rw [List.length_take] at this; omega
 obtain ⟨h1, tk, rfl, hk⟩ := x.done
 have noA : ∀ b : Addr, b ∉ (cxOf CX P w K mg base N qual scope f cd A outer s H E).ex := fun b z => absurd (show b ∈ ([] : List Addr) from z) (by simp)
 refine ⟨⟨e0.mod, S.kind, rfl, rfl, Nat.le_refl _, fun y z c h1 h2 => ?_, fun y hy => ?_, fun y c _ h => ?_, fun _ => hd, Around.frames_deeper e0.frames, .inr ⟨rfl, rfl⟩, fun b z => absurd z (noA b), e0.bs, e0.bsz, fun b _ _ => noA b, fun b z => absurd z (noA b), e0.funs, e0.frf⟩,
   rfl, e0.bare, Un.kept hk, ⟨_, x.toInCall.ns, fun i y v h1 h2 h3 => ?_⟩, fun y c h => ⟨_, x.cell y c h⟩, e0.hok.fresh (Nat.le_refl _), fun y c h => ?_, fun p hp => absurd (show p ∈ ([] : List (Addr × Obj)) from hp) (by simp), e0.hok.kept hk, ?_⟩
 · exact name_of_addr x.apart (PySem.mem_of_lookup h1) (PySem.mem_of_lookup h2)
 · have hy : scope.names.lookup y = some .cell ∨ scope.names.lookup y = some .free := hy
   rcases hy with hy | hy
   · exact cell_has hy
   · exact absurd rfl (S.nofree _ (PySem.mem_of_lookup hy))
 · exact Nat.le_of_lt (x.above y c (PySem.mem_of_lookup h))
 · have hi : i < vs.length := by
     unfold start at h2
     by_cases hi : i < vs.length
     · exact hi
     · rw [List.getElem?_append_right (by simpa using hi)] at h2
       rw [List.getElem?_replicate] at h2
       split at h2 <;> cases h2
   have ha : vs[i]? = some v := by
     unfold start at h2
     rw [List.getElem?_append_left (by simpa using hi), List.getElem?_map] at h2
     cases e : vs[i]? with
     | none => rw [e] at h2; cases h2
     | some a => rw [e] at h2; cases h2; rfl
   obtain ⟨u, hu, rv⟩ := r.get ha
   have hp : ps[i]? = some y := by
     rw [← S.pre, List.getElem?_take_of_lt (by omega)]; exact h1
   have ndP : ps.Nodup := by rw [← S.pre]; exact S.nd.sublist (List.take_sublist _ _)
   refine ⟨u, rv, ?_⟩
   rcases S.par y (List.mem_of_getElem? hp) with k | k
   · exact .inl ⟨k, bindL_get ndP hp hu k⟩
   · obtain ⟨c, e⟩ := cell_has (n := s.heap.objs.size + 1) k
     refine .inr ⟨.inl k, c, e, ?_⟩
     have q := x.cell y c e
     rw [bindC_get ndP hp hu (by show scope.names.lookup y ≠ _; rw [k]; decide)] at q
     exact q
 · exact e0.hok.fresh (Nat.le_of_lt (x.above y c (PySem.mem_of_lookup h)))
 · unfold start
   show _ = N.length
   rw [List.length_append, List.length_map, List.length_replicate]
   omega
theorem fn_of {CX : CXT} {P : Program} {w : World} {K : PySem.W.Frag} {mg : Str → Option Value} {base : Heap} {k : Nat} {f : Addr} {name qual : Str} {params : Arguments} {body : List Stmt} {scope : Scope} {dV kV doc pm cdv ct oc : Value} {an od : Option Addr}
   {osl : Array (Option Value)} {N ps : List Str} {sp : Sp} (lk : K.lookup f = some ⟨oc, od, .func (PySem.W.fnOf name qual params body scope dV kV doc pm an cdv ct), osl⟩) (hcd : PySem.W.codeIn K cdv qual = true) (S : FnScope N ps scope)
   (len : ∀ vs H Q E, sp vs H Q E → vs.length = ps.length)
   (hbody : ∀ (A : Around) (outer : List Env) (s : Shared) (H : Hp) (vs : List V) (Q : VK) (E : XK), Room k (A.deeper (envOfC qual scope s.heap.objs.size f cdv)) → sp vs H Q E →
     ∃ t, PSs (cxOf CX P w K mg base N qual scope f cdv A outer s H E) body t ∧ t { nx := fun _ H' => Q .non H', rt := Q } (start N vs) H) :
   FnOk P w K mg base CX (k + 1) f (PySem.W.fnOf name qual params body scope dV kV doc pm an cdv ct) ps sp := by
 refine ⟨len, fun A outer s H args us vs Q E hr e0 hb r hsp => ?_⟩
 have hl := len _ _ _ _ hsp
 have KX : K.In s.heap := e0.mod.kin.keeps fun b o e => (e0.bs b o e).1
 have lim : s.heap.NoLimit := e0.mod.nolimit.keeps fun b o e => (e0.bs b o e).1
 have hkind : ∀ y ∈ ps.zip us, scope.names.lookup y.1 = some .local ∨ (scope.names.lookup y.1 = some .cell ∧ ((cellsFrom (s.heap.objs.size + 1) scope.names []).lookup y.1).isSome = true) := fun ⟨n, v⟩ hy => by
   rcases S.par n (List.of_mem_zip hy).1 with q | q
   · exact .inl q
   · exact .inr ⟨q, PySem.W.cellsFrom_some _ _ _ (.inl q)⟩
 refine codeAny_call_function hr.depth (KX _ _ lk) rfl S.co S.gen rfl (PySem.W.codeRec_of KX hcd) (hb _ _ _ _ ?_)
 refine wpAny_newFunctionEnv_cells S.kind hkind fun env he s1 x => ?_
 subst he
 refine ⟨lim.keeps x.toInCall.keep, codeAny_func ?_⟩
 obtain ⟨t, ht, hq⟩ := hbody A outer s H vs Q E (hr.deeper _) hsp
 have I : Inv (cxOf CX P w K mg base N qual scope f cdv A outer s H E) [] (start N vs) H s1 := inv_start S hr.hd e0 hl r x
 refine wpAny_mono (ht [] s1 (start N vs) H _ I hq) (fun fl s' hs => ?_) fun e s' hs => hs
 have fin : ∀ {σ' : St} {H' : Hp} {v : V} {u : Value}, Inv (cxOf CX P w K mg base N qual scope f cdv A outer s H E) [] σ' H' s' → RelV v u → Q v H' → CE outer P w H s Q u s' :=
   fun {σ' H' v u} J rv q => ⟨v, H', J.os, J.bare, J.base, J.hok, rv, q⟩
 cases fl with
 | ret u =>
   obtain ⟨v, σ', H', J, rv, q⟩ := hs
   exact fin J rv q
 | next =>
   obtain ⟨σ', H', J, q⟩ := hs
   exact fin (v := V.non) (u := Value.none) J rfl q
 | brk =>
   obtain ⟨_, _, _, q⟩ := hs
   exact False.elim q
 | cont =>
   obtain ⟨_, _, _, q⟩ := hs
   exact False.elim q
end L2
namespace L2
open PySem PySem.Spec PyProof.Rows
section
variable {X : Cx} {x : Str} {p pos : Pos} {e : Expr} {es : List Expr} {t : TA} {id T : String} {r : List V → Hp → VK → Prop}
def tCB (r : List V → Hp → VK → Prop) (t : TA) : TE := fun σ H Q => t σ H fun vs H1 => r vs H1 Q
theorem pe_callB (hc : CallR X (.builtin id) r) (hg : Gl X x) (hm : X.mg x = none) (hv : bootBuiltins x = some (.builtin id)) (ha : PA X (e :: es) t) (hn : x ≠ "__name__" := by decide) (hdb : (x == ("__debug__" : Str)) = false := by decide)
   (he : starEach (e :: es) X.env = (false, eval e X.env) :: starEach es X.env := by rfl) (hpl : (backTo pos (starEach es X.env)).any (·.1) = false := by rfl) : PE X (.Call (.Name x p) (e :: es) [] pos) (tCB r t) := by
 intro pins s σ H Q I h
 refine wpAny_Call_Name_kw (ld_blt I hg hm hv ?_ hn hdb)
 exact PyProof.Rows.callWith_builtin1 (thn (ha pos pins s σ H _ I h) fun us s1 ⟨vs, H1, I1, r1, q1⟩ => hc pins s1 σ H1 vs us Q I1 r1 q1) he hpl
theorem pe_callTy (hc : CallR X (.type T) r) (hg : Gl X x) (hm : X.mg x = none) (hv : bootBuiltins x = some (.type T)) (ha : PA X (e :: es) t) (hn : x ≠ "__name__" := by decide) (hdb : (x == ("__debug__" : Str)) = false := by decide)
   (he : starEach (e :: es) X.env = (false, eval e X.env) :: starEach es X.env := by rfl) (hpl : (backTo pos (starEach es X.env)).any (·.1) = false := by rfl) : PE X (.Call (.Name x p) (e :: es) [] pos) (tCB r t) := by
 intro pins s σ H Q I h
 refine wpAny_Call_Name_kw (ld_blt I hg hm hv ?_ hn hdb)
 exact PyProof.Rows.callWith_type1 (thn (ha pos pins s σ H _ I h) fun us s1 ⟨vs, H1, I1, r1, q1⟩ => hc pins s1 σ H1 vs us Q I1 r1 q1) he hpl
end
end L2
namespace HT
open PySem PyProof.Rows
section
variable {prog : Program} {w : World} {A : Around} {E : Value → Shared → Prop} {s : Shared}
theorem cat_tup {t b : Addr} {vs ws : List Value} {Q : Value → Shared → Prop} (ht : IsTup s.heap t vs.toArray) (hb : IsTup s.heap b ws.toArray) (hv : vs ≠ [])
   (h1 : ws = [] → Q (.ref t) s) (h2 : ws ≠ [] → Q (.ref s.heap.objs.size) { s with heap := s.heap.push { cls := .type "tuple", data := .seq (vs ++ ws).toArray } })
   (hsz : vs.length + ws.length ≤ sizeLine) : wpAny (model prog w) A (binaryOp .Add (.ref t) (.ref b)) Q E s := by
 obtain ⟨⟨cls, dd, data, sl⟩, ho, hc, n, hd⟩ := id ht
 obtain ⟨⟨cls2, dd2, data2, sl2⟩, ho2, hc2, n2, hd2⟩ := id hb
 simp only at hc hd hc2 hd2
 subst hc hd hc2 hd2
 have e : vs.toArray ++ ws.toArray = (vs ++ ws).toArray := by simp
 by_cases hw : ws = []
 · exact concat_meets ⟨_, ho, rfl⟩ ⟨_, ho2, rfl⟩ noFill_tuple_add seq_tuple_add PySem.F.slot_tuple_add PySem.F.entry_tuple_add (PySem.F.args_tuple_add_2 _ _)
     (tuple_addW1 t b vs.toArray ws.toArray n n2 dd dd2 sl sl2 (by simpa using hv) (by simp [hw])) ⟨ho, ho2, h1 hw⟩
 · refine concat_meets ⟨_, ho, rfl⟩ ⟨_, ho2, rfl⟩ noFill_tuple_add seq_tuple_add PySem.F.slot_tuple_add PySem.F.entry_tuple_add (PySem.F.args_tuple_add_2 _ _)
     (tuple_addW2 t b vs.toArray ws.toArray n n2 dd dd2 sl sl2 (by simpa using hv) (by simpa using hw) (by rw [List.size_toArray, List.size_toArray]; exact hsz)) ⟨ho, ho2, ?_⟩
   rw [e]
   exact h2 hw
def sIx (n d : Nat) : Option Int → Nat
 | none => d
 | some v => if v < 0 then (v + (n : Int)).toNat else min v.toNat n
theorem sIx_le (n d : Nat) (hd : d ≤ n) (o : Option Int) : sIx n d o ≤ n := by
 cases o with
 | none => exact hd
 | some v =>
   show (if v < 0 then (v + (n : Int)).toNat else min v.toNat n) ≤ n
   by_cases hv : v < 0
   · rw [if_pos hv]; omega
   · rw [if_neg hv]; exact Nat.min_le_right _ _
theorem clip_eq (v : Int) (n d : Nat) : (if v < 0 then max (v + (n : Int)) 0 else min v (n : Int)) = ((sIx n d (some v) : Nat) : Int) := by
 show (if v < 0 then max (v + (n : Int)) 0 else min v (n : Int)) = (((if v < 0 then (v + (n : Int)).toNat else min v.toNat n) : Nat) : Int)
 by_cases hv : v < 0
 · simp only [if_pos hv]; omega
 · simp only [if_neg hv]; omega
theorem adjust_gen (lo hi : Option Int) (n : Nat) : Builtin.Slice.sliceAdjust lo hi 1 (n : Int) = (((sIx n 0 lo : Nat) : Int), ((sIx n n hi : Nat) : Int)) := by
 have h1 : ¬ ((1 : Int) < 0) := by omega
 unfold Builtin.Slice.sliceAdjust
 simp only [h1, if_false]
 refine Prod.ext ?_ ?_
 · cases lo with
   | none => rfl
   | some v => exact clip_eq v n 0
 · cases hi with
   | none => rfl
   | some v => exact clip_eq v n n
theorem places_gen (i j : Nat) : Builtin.Slice.slicePlaces (i : Int) (j : Int) 1 = j - i := by
 unfold Builtin.Slice.slicePlaces
 have h1 : (1 : Int) > 0 := by omega
 simp only [h1, if_true, Int.ediv_one]
 split <;> omega
theorem slicePart_ {v : Value} {o : Option Int} {Q : Option Int → Shared → Prop} (p : IsPart v o) (h : Q o s) : wpAny (model prog w) A (Builtin.Slice.slicePartIndex v) Q E s := by
 cases p with
 | none => exact slicePart_none h
 | int i t => exact slicePart_int h
theorem sliceApplied_gen {sl : Addr} {vl vu : Value} {lo hi : Option Int} {n : Nat} {Q : Int × Int × Nat → Shared → Prop} (hs : s.heap.IsSliceOf sl vl vu .none) (pl : IsPart vl lo) (pu : IsPart vu hi)
   (h : Q (((sIx n 0 lo : Nat) : Int), 1, sIx n n hi - sIx n 0 lo) s) : wpAny (model prog w) A (Builtin.Slice.sliceApplied (.ref sl) (pure (n : Int))) Q E s := by
 obtain ⟨os, hos, hcs, hds⟩ := id hs
 unfold Builtin.Slice.sliceApplied Builtin.Slice.sliceFields
 refine wpAny_bind (wpAny_bind (wpAny_field hos hds (x := vl) rfl (wpAny_bind (wpAny_field hos hds (x := vu) rfl (wpAny_bind (wpAny_field hos hds (x := .none) rfl (wpAny_pure ?_)))))))
 refine wpAny_bind (slicePart_none ?_)
 show wpAny _ _ (if ((1 : Int) == 0) = true then _ else _) _ _ s
 rw [if_neg (by decide)]
 refine wpAny_bind (slicePart_ pl (wpAny_bind (slicePart_ pu (wpAny_bind (wpAny_pure ?_)))))
 show wpAny _ _ (match Builtin.Slice.sliceAdjust lo hi 1 (n : Int) with | (lo, hi) => pure (lo, (1 : Int), Builtin.Slice.slicePlaces lo hi 1)) _ _ s
 rw [adjust_gen lo hi n]
 show wpAny _ _ (pure (((sIx n 0 lo : Nat) : Int), (1 : Int), Builtin.Slice.slicePlaces ((sIx n 0 lo : Nat) : Int) ((sIx n n hi : Nat) : Int) 1)) _ _ s
 rw [places_gen]
 exact wpAny_pure h
theorem pick_gen (xs : Array Value) (i k : Nat) : ((List.range k).filterMap fun (m : Nat) => xs[((i : Int) + (m : Int) * 1).toNat]?).toArray = ((xs.toList.drop i).take k).toArray := by
 have e : (fun (m : Nat) => xs[((i : Int) + (m : Int) * 1).toNat]?) = fun m => xs[i + m]? := by
   funext m
   have : ((i : Int) + (m : Int) * 1).toNat = i + m := by omega
   rw [this]
 rw [e]
 have := pick_run xs i k
 rw [List.filterMap_map] at this
 have e2 : ((fun x => xs[x]?) ∘ fun x => i + x) = fun m => xs[i + m]? := rfl
 rw [e2] at this
 rw [this]
theorem getItem_tuple_cut {t sl : Addr} {items : Array Value} {vl vu : Value} {lo hi : Option Int} {Q : Value → Shared → Prop} (ht : IsTup s.heap t items) (hs : s.heap.IsSliceOf sl vl vu .none) (pl : IsPart vl lo) (pu : IsPart vu hi)
   (hw : ¬ (sIx items.size 0 lo = 0 ∧ sIx items.size items.size hi = items.size))
   (h : Q (.ref s.heap.objs.size) { s with heap := s.heap.push { cls := .type "tuple", data := .seq ((items.toList.drop (sIx items.size 0 lo)).take (sIx items.size items.size hi - sIx items.size 0 lo)).toArray } })
   (hsz : items.size ≤ sizeLine) : wpAny (model prog w) A (getItem (.ref t) (.ref sl)) Q E s := by
 have htake : sizeOk (.seq ((items.toList.drop (sIx items.size 0 lo)).take (sIx items.size items.size hi - sIx items.size 0 lo)).toArray) := by
   show ((items.toList.drop (sIx items.size 0 lo)).take (sIx items.size items.size hi - sIx items.size 0 lo)).toArray.size ≤ sizeLine
   rw [List.size_toArray, List.length_take, List.length_drop, Array.length_toList]
   omega
 have hj : sIx items.size items.size hi ≤ items.size := sIx_le _ _ (Nat.le_refl _) hi
 obtain ⟨os, hos, hcs, hds⟩ := id hs
 have hTs : s.TypeIs (.ref sl) "slice" := ⟨os, hos, hcs⟩
 unfold getItem
 try with_reducible refine wpAny_holding ?_
 first | refine wpAny_bind (wpAny_pure ?_) | skip
 refine wpAny_bind (wpAny_sequenceKey ht.typeIs (by decide) ?_)
 refine wpAny_bind (wpAny_callSpecial?_slot (name := Str.ofString "__getitem__") ht.typeIs PyProof.Rows.slot_tuple_getitem
   (wpAny_call_entry PyProof.Rows.slot_tuple_getitem ht.typeIs entry_tuple_getitem ?_ (args_tuple_getitem _ _)))
 show wpAny _ _ (Builtin.Tuple.tupleItemsOf (.ref t) >>= _) _ _ s
 refine wpAny_bind (tupleItemsOf_ ht ?_)
 refine wpAny_bind (wpAny_typeOf hTs ?_)
 rw [if_pos (by decide)]
 refine wpAny_bind (sliceApplied_gen hs pl pu ?_)
 have hno : ¬ ((((sIx items.size 0 lo : Nat) : Int) == 0 && (1 : Int) == 1 && (sIx items.size items.size hi - sIx items.size 0 lo) == items.size) = true) := by
   intro q
   rw [Bool.and_eq_true, Bool.and_eq_true] at q
   have q1 : ((sIx items.size 0 lo : Nat) : Int) = 0 := eq_of_beq q.1.1
   have q2 : sIx items.size items.size hi - sIx items.size 0 lo = items.size := eq_of_beq q.2
   exact hw ⟨by omega, by omega⟩
 show wpAny _ _ (if (((sIx items.size 0 lo : Nat) : Int) == 0 && (1 : Int) == 1 && (sIx items.size items.size hi - sIx items.size 0 lo) == items.size) = true then _ else _) _ _ s
 rw [if_neg hno, pick_gen]
 first
   | exact wpAny_bind (m := Builtin.Tuple.tupleExact _) (wpAny_newObj_type (wpAny_pure ⟨_, rfl, wpAny_pure h⟩) htake)
   | exact wpAny_bind (m := Builtin.Tuple.tupleExact _) (wpAny_newObj_type (wpAny_bind (wpAny_pure (wpAny_pure ⟨_, rfl, wpAny_pure h⟩))) htake)
   | exact wpAny_bind (wpAny_bind (m := Builtin.Tuple.tupleExact _) (wpAny_newObj_type (wpAny_pure (wpAny_pure ⟨_, rfl, wpAny_pure h⟩)) htake))
   | exact wpAny_bind (wpAny_bind (m := Builtin.Tuple.tupleExact _) (wpAny_newObj_type (wpAny_pure ⟨_, rfl, wpAny_pure h⟩) htake))
end
end HT
namespace L2
open PySem PySem.Spec PyProof.Rows
abbrev TO := St → Hp → (Option Int → Hp → Prop) → Prop
def PO (X : Cx) (e : Option Expr) (t : TO) : Prop :=
 ∀ (pins : List (Addr × Obj)) (s : Shared) (σ : St) (H : Hp) (Q : Option Int → Hp → Prop), Inv X pins σ H s → t σ H Q →
   wpAny (model X.prog X.w) X.A (evalPart e X.env) (fun u s' => ∃ o H', Inv X pins σ H' s' ∧ IsPart u o ∧ Q o H') X.xe s
def tNoPart : TO := fun _ H Q => Q none H
def tPart (t : TE) : TO := fun σ H Q => t σ H fun x H1 => ∃ i, x = .int i ∧ Q (some i) H1
section
variable {X : Cx} {e : Expr} {te : TE} {lo hi : Option Expr} {tl th : TO} {pos p2 : Pos}
theorem po_none : PO X none tNoPart := by
 intro pins s σ H Q I h
 rw [evalPart_none]
 exact wpAny_pure ⟨none, H, I, .none, h⟩
theorem po_some (h : PE X e te) : PO X (some e) (tPart te) := by
 intro pins s σ H Q I hw
 rw [evalPart_some]
 refine thn (h pins s σ H _ I hw) fun u s1 ⟨x, H1, I1, r1, q1⟩ => ?_
 obtain ⟨i, rfl, q⟩ := q1
 obtain ⟨t, rfl⟩ := r1
 exact ⟨some i, H1, I1, .int i t, q⟩
def SlR (X : Cx) (r : V → Option Int → Option Int → Hp → VK → Prop) : Prop :=
 ∀ (pins : List (Addr × Obj)) (s : Shared) (σ : St) (H : Hp) (x : V) (v vl vu : Value) (lo hi : Option Int) (sl : Addr) (Q : VK), Inv X pins σ H s → RelV x v → s.heap.IsSliceOf sl vl vu .none → IsPart vl lo → IsPart vu hi → r x lo hi H Q →
   ∃ T id, typeLookup (.type T) "__getitem__" = pure (some (.builtin id)) ∧ s.TypeIs v T ∧ wpAny (model X.prog X.w) X.A (getItem v (.ref sl)) (EP X pins σ Q) X.xe s
theorem SlR.or {r r' : V → Option Int → Option Int → Hp → VK → Prop} (h : SlR X r) (h' : SlR X r') : SlR X (fun x lo hi H Q => r x lo hi H Q ∨ r' x lo hi H Q) := by
 intro pins s σ H x v vl vu lo hi sl Q I rx hs pl pu q
 rcases q with q | q
 · exact h pins s σ H x v vl vu lo hi sl Q I rx hs pl pu q
 · exact h' pins s σ H x v vl vu lo hi sl Q I rx hs pl pu q
def tSl (r : V → Option Int → Option Int → Hp → VK → Prop) (te : TE) (tl th : TO) : TE := fun σ H Q => te σ H fun x H1 => tl σ H1 fun l H2 => th σ H2 fun u H3 => r x l u H3 Q
theorem pe_slice {r : V → Option Int → Option Int → Hp → VK → Prop} (hr : SlR X r) (he : PE X e te) (hl : PO X lo tl) (hu : PO X hi th) : PE X (.Subscript e (.Slice lo hi none p2) pos) (tSl r te tl th) := by
 intro pins s σ H Q I h
 refine Subscript_ (thn (he pins s σ H _ I h) fun v s1 ⟨x, H1, I1, r1, q1⟩ => ?_)
 refine wpAny_Slice (thn (hl pins s1 σ H1 _ I1 q1) fun vl s2 ⟨l, H2, I2, pl, q2⟩ => thn (hu pins s2 σ H2 _ I2 q2) fun vu s3 ⟨u, H3, I3, pu, q3⟩ => ?_)
 rw [evalPart_none]
 refine wpAny_pure ?_
 have I4 : Inv X pins σ H3 { s3 with heap := s3.heap.push { cls := .type "slice", data := .fields #[vl, vu, .none] } } := I3.kept (t' := s3.toks) fun b ob q => Heap.get?_push_of_some _ q
 obtain ⟨T, id, hT, ht, hg⟩ := hr pins { s3 with heap := s3.heap.push { cls := .type "slice", data := .fields #[vl, vu, .none] } } σ H3 x v vl vu l u s3.heap.objs.size Q I4 r1 (Heap.IsSliceOf.new ..) pl pu q3
 show wpAny (model X.prog X.w) X.A (subscriptTail e (.Slice lo hi none p2) v (.ref s3.heap.objs.size)) (EP X pins σ Q) X.xe { s3 with heap := s3.heap.push { cls := .type "slice", data := .fields #[vl, vu, .none] } }
 exact tail_any (ops := [.ref s3.heap.objs.size, v]) ht hT hg (by with_unfolding_all rfl)
def cutV (xs : List V) (lo hi : Option Int) : List V := (xs.drop (HT.sIx xs.length 0 lo)).take (HT.sIx xs.length xs.length hi - HT.sIx xs.length 0 lo)
theorem cutV_length (xs : List V) (lo hi : Option Int) : (cutV xs lo hi).length ≤ xs.length := by
 unfold cutV
 rw [List.length_take, List.length_drop]
 omega
def rSlT (K : PySem.W.Frag) : V → Option Int → Option Int → Hp → VK → Prop := fun x lo hi H Q => ∃ a xs, x = .ref a ∧ SqT K H a xs ∧
 ¬ (HT.sIx xs.length 0 lo = 0 ∧ HT.sIx xs.length xs.length hi = xs.length) ∧ ∀ p, H p = none → Q (.ref p) (upd H p (.tup (cutV xs lo hi)))
theorem sl_tup : SlR X (rSlT X.K) := by
 intro pins s σ H x v vl vu lo hi sl Q I rx hs pl pu h
 obtain ⟨a, xs, rfl, hx, hw, q⟩ := h
 cases rx
 obtain ⟨its, r, ht, hz⟩ := I.tuple hx
 have hlen : its.toArray.size = xs.length := by rw [List.size_toArray]; exact r.length.symm
 refine ⟨"tuple", _, PyProof.Rows.slot_tuple_getitem.lookup, ht.typeIs, ?_⟩
 refine HT.getItem_tuple_cut ht hs pl pu (by rw [hlen]; exact hw) ?_ (by rw [hlen]; exact hz)
 rw [hlen]
 refine ⟨.ref s.heap.objs.size, _, I.laid (t' := s.toks) (o := .tup (cutV xs lo hi)) (fun b ob q => Heap.get?_push_of_some _ q) (Nat.le_refl _) ?_, rfl, q _ (I.hok.fresh (Nat.le_refl _))⟩
 exact ⟨Nat.le_trans (cutV_length xs lo hi) hz, _, (r.drop (HT.sIx xs.length 0 lo)).take (HT.sIx xs.length xs.length hi - HT.sIx xs.length 0 lo), IsTup.new _ _⟩
def rCatT (K : PySem.W.Frag) : R2 := fun x y H Q => ∃ a b xs ys, x = .ref a ∧ y = .ref b ∧ SqT K H a xs ∧ SqT K H b ys ∧ xs ≠ [] ∧ xs.length + ys.length ≤ sizeLine ∧
 (ys = [] → Q (.ref a) H) ∧ (ys ≠ [] → ∀ p, H p = none → Q (.ref p) (upd H p (.tup (xs ++ ys))))
theorem Vals.nil_iff {xs : List V} {us : List Value} (r : Vals xs us) : us = [] ↔ xs = [] := by
 cases r with
 | nil => simp
 | cons _ _ => simp
theorem op_catT : OpR X (binaryOp .Add) (rCatT X.K) := by
 intro pins s σ H x y v u Q I rx ry h
 obtain ⟨a, b, xs, ys, rfl, rfl, ha, hb, hx, hz, q1, q2⟩ := h
 cases rx
 cases ry
 obtain ⟨its, r1, p1, _⟩ := I.tuple ha
 obtain ⟨its2, r2, p2, _⟩ := I.tuple hb
 refine HT.cat_tup p1 p2 (fun z => hx (r1.nil_iff.mp z)) (fun z => ⟨.ref a, H, I, rfl, q1 (r2.nil_iff.mp z)⟩) (fun z => ?_) (by rw [← r1.length, ← r2.length]; exact hz)
 refine ⟨.ref s.heap.objs.size, _, I.laid (t' := s.toks) (o := .tup (xs ++ ys)) (fun b ob q => Heap.get?_push_of_some _ q) (Nat.le_refl _) ?_, rfl, q2 (fun w => z (r2.nil_iff.mpr w)) _ (I.hok.fresh (Nat.le_refl _))⟩
 exact ⟨by rw [List.length_append]; exact hz, _, r1.append r2, IsTup.new _ _⟩
end
end L2
namespace L2
open PySem PySem.Spec PyProof.Rows
def ixN (n : Nat) (i : Int) : Option Nat := if 0 ≤ i then (if i < n then some i.toNat else none) else if -(n : Int) ≤ i then some (i + n).toNat else none
def atI {α : Type} (xs : List α) (i : Int) : Option α := (ixN xs.length i).bind fun j => xs[j]?
theorem ixN_seq {n : Nat} {i : Int} {j : Nat} (h : ixN n i = some j) : seqIndex? i n = some j ∧ j < n ∧ -(n : Int) ≤ i ∧ i < n := by
 unfold ixN at h
 by_cases h0 : 0 ≤ i
 · rw [if_pos h0] at h
   by_cases h1 : i < n
   · rw [if_pos h1] at h
     have e : i.toNat = j := Option.some.inj h
     exact ⟨by rw [seqIndex_of h0 h1, e], by omega, by omega, h1⟩
   · rw [if_neg h1] at h; cases h
 · rw [if_neg h0] at h
   by_cases h1 : -(n : Int) ≤ i
   · rw [if_pos h1] at h
     have e : (i + n).toNat = j := Option.some.inj h
     exact ⟨by rw [seqIndex_neg (by omega) h1, e], by omega, h1, by omega⟩
   · rw [if_neg h1] at h; cases h
theorem atI_get {α : Type} {xs : List α} {i : Int} {v : α} (h : atI xs i = some v) : ∃ j, seqIndex? i xs.length = some j ∧ xs[j]? = some v ∧ j < xs.length ∧ -(xs.length : Int) ≤ i ∧ i < xs.length := by
 unfold atI at h
 cases e : ixN xs.length i with
 | none => rw [e] at h; cases h
 | some j =>
   rw [e] at h
   obtain ⟨h1, h2, h3, h4⟩ := ixN_seq e
   exact ⟨j, h1, h, h2, h3, h4⟩
theorem atI_nat {α : Type} {xs : List α} {j : Nat} {v : α} (h : xs[j]? = some v) : atI xs (j : Int) = some v := by
 have hj : j < xs.length := (List.getElem?_eq_some_iff.mp h).1
 have e : ixN xs.length (j : Int) = some j := by
   unfold ixN
   rw [if_pos (by omega), if_pos (by omega)]; simp
 unfold atI; rw [e]; exact h
def PlainIx (b : Expr) : Prop := ∀ o i, subscripted b false o i = operate [o, i] (getItem o i)
def IxR (X : Cx) (r : R2) : Prop :=
 ∀ (value slice : Expr) (pins : List (Addr × Obj)) (s : Shared) (σ : St) (H : Hp) (x y : V) (v u : Value) (Q : VK), Inv X pins σ H s → RelV x v → RelV y u → r x y H Q →
   subscripted slice false v u = operate [v, u] (getItem v u) → wpAny (model X.prog X.w) X.A (subscriptTail value slice v u) (EP X pins σ Q) X.xe s
def MtR (X : Cx) (id : String) (r : V → List V → Hp → VK → Prop) : Prop :=
 ∀ (pins : List (Addr × Obj)) (s : Shared) (σ : St) (H : Hp) (x : V) (xs : List V) (v : Value) (us : List Value) (Q : VK), Inv X pins σ H s → RelV x v → Vals xs us → r x xs H Q →
   wpAny (model X.prog X.w) X.A (call (.builtin id) (v :: us)) (EP X pins σ Q) X.xe s
section
variable {X : Cx} {a b : Expr} {ta tb : TE} {pos : Pos}
theorem IxR.or {r r' : R2} (h : IxR X r) (h' : IxR X r') : IxR X (fun x y H Q => r x y H Q ∨ r' x y H Q) := by
 intro value slice pins s σ H x y v u Q I rx ry q hs
 rcases q with q | q
 · exact h value slice pins s σ H x y v u Q I rx ry q hs
 · exact h' value slice pins s σ H x y v u Q I rx ry q hs
theorem pe_ix {r : R2} (hr : IxR X r) (ha : PE X a ta) (hb : PE X b tb) (hs : PlainIx b) : PE X (.Subscript a b pos) (tOp r ta tb) := by
 intro pins s σ H Q I h
 exact Subscript_ (binT ha hb I h fun v u s2 x y H2 I2 rx ry q => hr a b pins s2 σ H2 x y v u Q I2 rx ry q (hs _ _))
def rIxL (K : PySem.W.Frag) : R2 := fun x y H Q => ∃ p xs i v, x = .ref p ∧ y = .int i ∧ SqL K H p xs ∧ atI xs i = some v ∧ Q v H
def rIxT (K : PySem.W.Frag) : R2 := fun x y H Q => ∃ p xs i v, x = .ref p ∧ y = .int i ∧ SqT K H p xs ∧ atI xs i = some v ∧ Q v H
def rIxS : R2 := fun x y H Q => ∃ z i c, x = .str z ∧ y = .int i ∧ z.length ≤ sizeLine ∧ atI z.cps.toList i = some c ∧ Q (.str ⟨#[c]⟩) H
theorem ix_list : IxR X (rIxL X.K) := by
 intro value slice pins s σ H x y v u Q I rx ry h hs
 obtain ⟨p, xs, i, z, rfl, rfl, hq, he, q⟩ := h
 cases rx
 obtain ⟨t, rfl⟩ := ry
 obtain ⟨its, r, pl, hz⟩ := I.list hq
 obtain ⟨j, h1, h2, h3, h4, h5⟩ := atI_get he
 obtain ⟨w, ew, rw'⟩ := r.get h2
 have hl := r.length
 have hn := line63
 have fin : EP X pins σ Q w s := ⟨z, H, I, rw', q⟩
 by_cases h0 : 0 ≤ i
 · have hj : i.toNat = j := by
     rw [seqIndex_of h0 h5] at h1
     exact Option.some.inj h1
   exact item_listR pl.isList h0 (by omega) (by rw [hj]; simpa using ew) fin hs
 · have hj : (i + (its.toArray.size : Int)).toNat = j := by
     rw [seqIndex_neg (by omega) h4] at h1
     rw [List.size_toArray, ← hl]
     exact Option.some.inj h1
   exact subscriptTail_builtinR (x := w) pl.isList.typeIs slot_list_getitem.lookup
     (wpAny_getItem_list_neg (Q := fun r s' => r = w ∧ EP X pins σ Q r s') pl.isList (by omega) (by rw [List.size_toArray] <;> omega) (by omega) (by rw [hj]; simpa using ew) ⟨rfl, fin⟩) hs
theorem ix_tup : IxR X (rIxT X.K) := by
 intro value slice pins s σ H x y v u Q I rx ry h hs
 obtain ⟨p, xs, i, z, rfl, rfl, hq, he, q⟩ := h
 cases rx
 obtain ⟨t, rfl⟩ := ry
 obtain ⟨its, r, pl, hz⟩ := I.tuple hq
 obtain ⟨j, h1, h2, h3, h4, h5⟩ := atI_get he
 obtain ⟨w, ew, rw'⟩ := r.get h2
 have hl := r.length
 have hn := line63
 have fin : EP X pins σ Q w s := ⟨z, H, I, rw', q⟩
 exact subscriptTail_builtinR (x := w) pl.typeIs slot_tuple_getitem.lookup
   (getItem_tuple (j := j) (Q := fun r s' => r = w ∧ EP X pins σ Q r s') pl (by omega) (by omega) (by rw [List.size_toArray, ← hl]; exact h1) (by simpa using ew) ⟨rfl, fin⟩) hs
theorem ix_str : IxR X rIxS := by
 intro value slice pins s σ H x y v u Q I rx ry h hs
 obtain ⟨z, i, c, rfl, rfl, hz, he, q⟩ := h
 obtain ⟨t, rfl⟩ := rx
 obtain ⟨t', rfl⟩ := ry
 obtain ⟨j, h1, h2, h3, h4, h5⟩ := atI_get he
 have hl : z.cps.toList.length = z.length := by simp [Str.length]
 rw [hl] at h1 h4 h5
 have hn := line63
 exact tail_any (typeIs_str s z t) slot_str_getitem.lookup (getItem_str (c := c) (by
   have e1 : decide (i < -(2 ^ 63 : Int)) = false := decide_eq_false (by omega)
   have e2 : decide (i ≥ 2 ^ 63) = false := decide_eq_false (by omega)
   rw [e1, e2, Bool.or_false]) (by rw [h1]; simpa using h2) ⟨.str ⟨#[c]⟩, H, I.tok _, ⟨_, rfl⟩, q⟩) hs
def rIx (K : PySem.W.Frag) : R2 := fun x y H Q => rIxL K x y H Q ∨ rIxT K x y H Q ∨ rIxS x y H Q
theorem ix_seq : IxR X (rIx X.K) := ix_list.or (ix_tup.or ix_str)
theorem slice_bounds (lo hi : Option Int) (n : Nat) : (sliceBounds lo hi none n).1 = ((HT.sIx n 0 lo : Nat) : Int) ∧ (sliceBounds lo hi none n).2.1 = ((HT.sIx n n hi : Nat) : Int) ∧ (sliceBounds lo hi none n).2.2 = 1 := by
 refine ⟨?_, ?_, rfl⟩
 · cases lo with
   | none => simp [sliceBounds, HT.sIx]
   | some i =>
     simp only [sliceBounds, HT.sIx, Option.getD_none, show (1 : Int) > 0 by decide, if_true]
     by_cases h : i < 0
     · simp only [h, if_true] <;> omega
     · simp only [h, if_false] <;> omega
 · cases hi with
   | none => simp [sliceBounds, HT.sIx]
   | some i =>
     simp only [sliceBounds, HT.sIx, Option.getD_none, show (1 : Int) > 0 by decide, if_true]
     by_cases h : i < 0
     · simp only [h, if_true] <;> omega
     · simp only [h, if_false] <;> omega
theorem slicePick_cut (its : List Value) (lo hi : Option Int) : slicePick its.toArray lo hi none = ((its.drop (HT.sIx its.length 0 lo)).take (HT.sIx its.length its.length hi - HT.sIx its.length 0 lo)).toArray := by
 obtain ⟨h1, h2, h3⟩ := slice_bounds lo hi its.toArray.size
 unfold slicePick
 rw [h1, h2, h3]
 simp only [sliceRange_one, pick_run, List.size_toArray] <;> rfl
def rSlL (K : PySem.W.Frag) : V → Option Int → Option Int → Hp → VK → Prop := fun x lo hi H Q => ∃ a xs, x = .ref a ∧ SqL K H a xs ∧ ∀ p, H p = none → Q (.ref p) (upd H p (.lst (cutV xs lo hi)))
theorem sl_list : SlR X (rSlL X.K) := by
 intro pins s σ H x v vl vu lo hi sl Q I rx hs pl pu h
 obtain ⟨a, xs, rfl, hx, q⟩ := h
 cases rx
 obtain ⟨its, r, ht, hz⟩ := I.list hx
 have hlen := r.length
 refine ⟨"list", _, slot_list_getitem.lookup, ht.isList.typeIs, ?_⟩
 refine wpAny_getItem_list_slice ht.isList hs pl pu .none (by simp) ?_ (by rw [List.size_toArray] <;> omega)
 rw [slicePick_cut, ← hlen]
 refine ⟨.ref s.heap.objs.size, _, I.laid (t' := s.toks) (o := .lst (cutV xs lo hi)) (fun b ob q => Heap.get?_push_of_some _ q) (Nat.le_refl _) ?_, rfl, q _ (I.hok.fresh (Nat.le_refl _))⟩
 exact ⟨Nat.le_trans (cutV_length xs lo hi) hz, _, 0, (r.drop (HT.sIx xs.length 0 lo)).take (HT.sIx xs.length xs.length hi - HT.sIx xs.length 0 lo), Heap.get?_push_size _ rfl⟩
theorem CallR.or {f : Value} {r r' : List V → Hp → VK → Prop} (h : CallR X f r) (h' : CallR X f r') : CallR X f (fun xs H Q => r xs H Q ∨ r' xs H Q) := by
 intro pins s σ H xs us Q I rs q
 rcases q with q | q
 · exact h pins s σ H xs us Q I rs q
 · exact h' pins s σ H xs us Q I rs q
theorem call_list_of : CallR X (.type "list") (fun xs H Q => ∃ p ys, xs = [.ref p] ∧ (SqL X.K H p ys ∨ SqT X.K H p ys) ∧ ∀ l, H l = none → Q (.ref l) (upd H l (.lst ys))) := by
 intro pins s σ H xs us Q I r h
 obtain ⟨p, ys, rfl, hq, q⟩ := h
 obtain ⟨u, rfl, rx⟩ := vals1 r
 cases rx
 have fin : ∀ (its : List Value), Vals ys its → ys.length ≤ sizeLine → ∀ (h' : Heap) (c' : Nat), (∀ b o', s.heap.get? b = some o' → h'.get? b = some o') →
     h'.get? s.heap.objs.size = some { cls := .type "list", dict := none, data := .seq its.toArray c', slots := #[] } → EP X pins σ Q (.ref s.heap.objs.size) { s with heap := h' } := fun its r' hz h' c' kp e =>
   ⟨.ref s.heap.objs.size, _, I.laid (t' := s.toks) kp (Nat.le_refl _) (show ObjOk X.prog X.w _ h' _ (.lst ys) from ⟨hz, its, c', r', e⟩), rfl, q _ (I.hok.fresh (Nat.le_refl _))⟩
 rcases hq with hq | hq
 · obtain ⟨its, r', pl, hz⟩ := I.list hq
   have hlen := r'.length
   obtain ⟨o, ho, hc, n, hd⟩ := pl.isList
   exact call_list_seq p (.inl rfl) ho hc hd (fun h' c' kp e => fin its r' hz h' c' kp e) (by simp only [List.size_toArray] <;> omega)
 · obtain ⟨its, r', pl, hz⟩ := I.tuple hq
   have hlen := r'.length
   obtain ⟨o, ho, hc, n, hd⟩ := pl
   exact call_list_seq p (.inr rfl) ho hc hd (fun h' c' kp e => fin its r' hz h' c' kp e) (by simp only [List.size_toArray] <;> omega)
theorem call_tuple_of : CallR X (.type "tuple") (fun xs H Q => ∃ p ys, xs = [.ref p] ∧ ((SqL X.K H p ys ∧ ∀ l, H l = none → Q (.ref l) (upd H l (.tup ys))) ∨ (SqT X.K H p ys ∧ Q (.ref p) H))) := by
 intro pins s σ H xs us Q I r h
 obtain ⟨p, ys, rfl, h⟩ := h
 obtain ⟨u, rfl, rx⟩ := vals1 r
 cases rx
 rcases h with ⟨hq, q⟩ | ⟨hq, q⟩
 · obtain ⟨its, r', pl, hz⟩ := I.list hq
   have hlen := r'.length
   refine call_tuple_list pl.isList (fun h' kp => ?_) (by simp only [List.size_toArray] <;> omega)
   have I1 : Inv X pins σ H { s with heap := h' } := I.kept (t' := s.toks) kp
   have I2 : Inv X pins σ (upd H h'.objs.size (.tup ys)) { s with heap := h'.push { cls := .type "tuple", data := .seq its.toArray } } :=
     I1.laid (t' := s.toks) (fun b o e => Heap.get?_push_of_some _ e) (Nat.le_refl _) (show ObjOk X.prog X.w _ _ _ (.tup ys) from ⟨hz, its, r', IsTup.new _ _⟩)
   exact ⟨.ref h'.objs.size, _, I2, rfl, q _ (I1.hok.fresh (Nat.le_refl _))⟩
 · obtain ⟨its, r', pl, hz⟩ := I.tuple hq
   exact call_tuple_same pl ⟨.ref p, H, I, rfl, q⟩
def tyV (K : PySem.W.Frag) (T : String) (x : V) (H : Hp) : Prop := match x with
 | .str _ => T = "str"
 | .int _ => T = "int"
 | .ref p => (T = "list" ∧ ∃ xs, SqL K H p xs) ∨ (T = "tuple" ∧ ∃ o, K.lookup p = some o ∧ o.cls = .type "tuple" ∧ o.dict = none) ∨
     (T = "dict" ∧ ((∃ kvs, H p = some (.dK kvs)) ∨ ∃ kvs, H p = some (.dT kvs))) ∨ (T = "set" ∧ ∃ S n, H p = some (.set S n))
 | _ => False
theorem tyV_is {pins : List (Addr × Obj)} {σ : St} {H : Hp} {s : Shared} {T : String} {x : V} {v : Value} (I : Inv X pins σ H s) (r : RelV x v) (ty : tyV X.K T x H) :
   s.TypeIs v T ∧ ∀ a, v = .ref a → ∃ ob, s.heap.get? a = some ob ∧ ob.dict = none := by
 cases x with
 | str z =>
   obtain ⟨t, rfl⟩ := r
   cases (show T = "str" from ty)
   exact ⟨typeIs_str s z t, fun _ e => nomatch e⟩
 | int i =>
   obtain ⟨t, rfl⟩ := r
   cases (show T = "int" from ty)
   exact ⟨typeIs_int s i t, fun _ e => nomatch e⟩
 | ref p =>
   cases r
   rcases ty with ⟨rfl, xs, hq⟩ | ⟨rfl, o, hk, hc, hd⟩ | ⟨rfl, hk⟩ | ⟨rfl, S, n, hk⟩
   · obtain ⟨its, _, pl, _⟩ := I.list hq
     refine ⟨pl.isList.typeIs, fun a e => ?_⟩
     cases e
     obtain ⟨o, n, e, c, hd, _⟩ := pl
     exact ⟨o, e, hd⟩
   · refine ⟨⟨o, I.kIn p o hk, hc⟩, fun a e => ?_⟩
     cases e
     exact ⟨o, I.kIn _ o hk, hd⟩
   · have z : ∃ o, s.heap.get? p = some o ∧ o.ExactDict := by
       rcases hk with ⟨kvs, hk⟩ | ⟨kvs, hk⟩
       · obtain ⟨_, _, _, _, o, _, _, e, ex, _⟩ := I.hok p _ hk
         exact ⟨o, e, ex⟩
       · obtain ⟨_, _, _, _, o, _, _, e, ex, _⟩ := I.hok p _ hk
         exact ⟨o, e, ex⟩
     obtain ⟨o, e, ex⟩ := z
     refine ⟨⟨o, e, ex.1⟩, fun a e2 => ?_⟩
     cases e2
     exact ⟨o, e, ex.2.1⟩
   · obtain ⟨o, _, _, _, e, ex, _⟩ := I.hok p _ hk
     refine ⟨⟨o, e, ex.1⟩, fun a e2 => ?_⟩
     cases e2
     exact ⟨o, e, ex.2.1⟩
 | _ => exact False.elim ty
def tBM0 (K : PySem.W.Frag) (T : String) (r : V → List V → Hp → VK → Prop) (to : TE) : TE := fun σ H Q => to σ H fun x H1 => tyV K T x H1 ∧ r x [] H1 Q
def tBM (K : PySem.W.Frag) (T : String) (r : V → List V → Hp → VK → Prop) (to : TE) (t : TA) : TE := fun σ H Q => to σ H fun x H1 => tyV K T x H1 ∧ t σ H1 fun xs H2 => r x xs H2 Q
variable {o e : Expr} {es : List Expr} {to : TE} {t : TA} {name : Str} {apos cpos : Pos} {T id : String} {r : V → List V → Hp → VK → Prop}
theorem pe_bm0 (pa : PlainAttrs T) (slot : Slot T name id) (hty : typeOf (.builtin id) = pure (.type "method_descriptor")) (hm : MtR X id r) (ho : PE X o to)
   (hbase : attributeBase o name X.env (eval o X.env) = eval o X.env := by rfl) (hline : (apos.endLine == cpos.line) = true := by rfl) : PE X (.Call (.Attribute o name apos) [] [] cpos) (tBM0 X.K T r to) := by
 intro pins s σ H Q I h
 refine wpAny_Call_method0_late hbase hline (thn (ho pins s σ H _ I h) fun v s1 ⟨x, H1, I1, r1, ty, q1⟩ => ?_)
 obtain ⟨h1, h2⟩ := tyV_is I1 r1 ty
 exact ⟨T, id, pa, slot, hty, h1, h2, Calls.callWith_builtin rfl (PySem.evalArgs_none (hm pins s1 σ H1 x [] v [] Q I1 r1 .nil q1))⟩
theorem pe_bm (pa : PlainAttrs T) (slot : Slot T name id) (hty : typeOf (.builtin id) = pure (.type "method_descriptor")) (hm : MtR X id r) (ho : PE X o to) (ha : PA X (e :: es) t)
   (hbase : attributeBase o name X.env (eval o X.env) = eval o X.env := by rfl)
   (hfew : ((backTo cpos (starEach (e :: es) X.env)).all (fun x => !x.1) && (backToKw cpos (keywordEach [] X.env)).all (fun x => x.1.isSome)
     && decide ((e :: es).length + ([] : List Keyword).length + (if ([] : List Keyword).isEmpty then 0 else 1) < 30)) = true := by rfl)
   (hline : (apos.endLine == cpos.line) = true := by rfl) (hs : starEach (e :: es) X.env = (false, eval e X.env) :: starEach es X.env := by rfl) (hplain : (backTo cpos (starEach es X.env)).any (·.1) = false := by rfl) :
   PE X (.Call (.Attribute o name apos) (e :: es) [] cpos) (tBM X.K T r to t) := by
 intro pins s σ H Q I h
 refine wpAny_Call_method_late hbase hfew hline rfl (thn (ho pins s σ H _ I h) fun v s1 ⟨x, H1, I1, r1, ty, q1⟩ => ?_)
 obtain ⟨h1, h2⟩ := tyV_is I1 r1 ty
 refine ⟨T, id, pa, slot, hty, h1, h2, ?_⟩
 have hA := ha cpos pins s1 σ H1 _ I1 q1
 rw [hs] at hA ⊢
 refine Calls.callWith_builtin (by show (false || (backTo cpos (starEach es X.env)).any (·.1)) = false; rw [hplain] <;> rfl) (Calls.evalArgs_plain ?_)
 exact thn hA fun us s2 ⟨vs, H2, I2, r2, q2⟩ => hm pins s2 σ H2 x vs v us Q I2 r1 r2 q2
/- xs.append(e), list.index on a module's tuple .. are MtR facts of 06m -/
end
end L2
namespace L2
open PySem PySem.Spec PyProof.Rows
def MtM (X : Cx) (id : String) (r : V → List V → Hp → VK → Prop) : Prop :=
 ∀ (pins : List (Addr × Obj)) (s : Shared) (σ : St) (H : Hp) (x : V) (xs : List V) (v : Value) (us : List Value) (Q : VK), Inv X pins σ H s → RelV x v → Vals xs us → r x xs H Q →
   wpAny (model X.prog X.w) X.A (call (.builtin id) (v :: us)) (EP X pins σ Q) X.xe s
theorem Vals.one : ∀ {x : V} {us : List Value}, Vals [x] us → ∃ u, us = [u] ∧ RelV x u
 | _, _, .cons r .nil => ⟨_, rfl, r⟩
theorem Vals.zero : ∀ {us : List Value}, Vals [] us → us = []
 | _, .nil => rfl
theorem Vals.dropLast {xs : List V} {us : List Value} (h : Vals xs us) : Vals xs.dropLast us.dropLast := by
 induction h with
 | nil => exact .nil
 | cons r t ih =>
   cases t with
   | nil => exact .nil
   | cons q t' => exact .cons r ih
theorem Vals.eraseIdx : ∀ {xs : List V} {us : List Value} (i : Nat), Vals xs us → Vals (xs.eraseIdx i) (us.eraseIdx i)
 | _, _, _, .nil => .nil
 | _, _, 0, .cons _ t => t
 | _, _, i + 1, .cons r t => .cons r (Vals.eraseIdx i t)
theorem Vals.reverse {xs : List V} {us : List Value} (h : Vals xs us) : Vals xs.reverse us.reverse := by
 induction h with
 | nil => exact .nil
 | cons r t ih => rw [List.reverse_cons, List.reverse_cons]; exact Vals.append ih (.cons r .nil)
theorem erase_last {α : Type} (l : List α) : l.eraseIdx (l.length - 1) = l.dropLast := by
 induction l with
 | nil => rfl
 | cons a r ih =>
   cases r with
   | nil => rfl
   | cons b r =>
     have e : (a :: b :: r).length - 1 = ((b :: r).length - 1) + 1 := by
       have h1 : (a :: b :: r).length = r.length + 2 := rfl
       have h2 : (b :: r).length = r.length + 1 := rfl
       omega
     rw [e, List.eraseIdx_cons_succ, ih]
     all_goals rfl
theorem len_erase {α : Type} : ∀ (l : List α) (i : Nat), (l.eraseIdx i).length ≤ l.length
 | [], _ => Nat.le_refl _
 | _ :: _, 0 => Nat.le_succ _
 | _ :: r, i + 1 => Nat.succ_le_succ (len_erase r i)
section
variable {X : Cx} {pins : List (Addr × Obj)} {σ : St} {H : Hp} {s : Shared} {l b : Addr} {xs ys zs : List V}
theorem Inv.lset {its its' : List Value} {n : Nat} {f : Array Value → Array Value} {t' : Nat} (I : Inv X pins σ H s) (hH : H l = some (.lst xs))
   (e : s.heap.get? l = some { cls := .type "list", data := .seq its.toArray n }) (hf : f its.toArray = its'.toArray) (hv : Vals ys its') (hz : ys.length ≤ sizeLine) :
   Inv X pins σ (upd H l (.lst ys)) { s with heap := s.heap.update l (Obj.mapSeq f), toks := t' } := by
 have q := PySem.IsL.update e f
 rw [hf] at q
 refine I.write (x := l) (e := l) (by rw [hH]; exact trivial) (.inl rfl) (fun b' u hb hu => (Heap.get?_update_other s.heap (Obj.mapSeq f) (Ne.symm hb)).trans hu) ⟨_, q⟩ ?_
 exact ⟨hz, its', _, hv, q⟩
theorem Inv.lnew {its : List Value} {t' : Nat} (I : Inv X pins σ H s) (hv : Vals ys its) (hz : ys.length ≤ sizeLine) :
   Inv X pins σ (upd H s.heap.objs.size (.lst ys)) { s with heap := s.heap.push { cls := .type "list", data := .seq its.toArray }, toks := t' } :=
 I.laid (fun _ _ q => Heap.get?_push_of_some _ q) (Nat.le_refl _) ⟨hz, its, 0, hv, Heap.get?_push_size _ rfl⟩
theorem Inv.fresh (I : Inv X pins σ H s) : H s.heap.objs.size = none := I.hok.fresh (Nat.le_refl _)
theorem Inv.lstM (I : Inv X pins σ H s) (hH : H l = some (.lst xs)) : xs.length ≤ sizeLine ∧ ∃ (its : List Value) (n : Nat), Vals xs its ∧ xs.length = its.length ∧ s.heap.get? l = some { cls := .type "list", data := .seq its.toArray n } := by
 obtain ⟨z, its, n, r, e⟩ := I.hok l _ hH
 exact ⟨z, its, n, r, r.length, e⟩
end
section
variable {X : Cx}
def rAppend : V → List V → Hp → VK → Prop := fun x vs H Q => ∃ l xs y, x = .ref l ∧ vs = [y] ∧ H l = some (.lst xs) ∧ xs.length < sizeLine ∧ Q .non (upd H l (.lst (xs ++ [y])))
theorem mt_append : MtM X "list.append" rAppend := by
 intro pins s σ H x vs v us Q I rx rv h
 obtain ⟨l, xs, y, rfl, rfl, hH, hz, q⟩ := h
 cases rx
 obtain ⟨u, rfl, ru⟩ := rv.one
 obtain ⟨z, its, n, r, hl, e⟩ := I.lstM hH
 refine call_meets F.slot_list_append ⟨_, e, rfl⟩ F.entry_list_append (F.args_list_append_2 _ _) (PySem.list_append l its.toArray n u (by rw [List.size_toArray]; omega)) ⟨e, ?_⟩
 refine ⟨.non, _, I.lset (its' := its ++ [u]) hH e (by simp) (r.append (.cons ru .nil)) ?_, rfl, q⟩
 rw [List.length_append, List.length_singleton]
 omega
def rPop : V → List V → Hp → VK → Prop := fun x vs H Q => ∃ l xs y, x = .ref l ∧ vs = [] ∧ H l = some (.lst xs) ∧ xs[xs.length - 1]? = some y ∧ Q y (upd H l (.lst xs.dropLast))
theorem mt_pop : MtM X "list.pop" rPop := by
 intro pins s σ H x vs v us Q I rx rv h
 obtain ⟨l, xs, y, rfl, rfl, hH, hy, q⟩ := h
 cases rx
 have hus := rv.zero
 subst hus
 obtain ⟨z, its, n, r, hl, e⟩ := I.lstM hH
 obtain ⟨u, hu, ru⟩ := r.get hy
 have hy' : its.toArray[its.toArray.size - 1]? = some u := by
   show its.toArray[its.length - 1]? = some u
   rw [← Array.getElem?_toList, ← hl]
   exact hu
 refine call_meets F.slot_list_pop ⟨_, e, rfl⟩ F.entry_list_pop (F.args_list_pop_1 _) (MeetsSeq.list_pop_last l its.toArray n u hy' (by rw [List.size_toArray]; omega)) ⟨e, ?_⟩
 refine ⟨y, _, I.lset (its' := its.dropLast) hH e ?_ r.dropLast ?_, ru, q⟩
 · show its.toArray.eraseIdxIfInBounds (its.toArray.size - 1) = its.dropLast.toArray
   rw [List.size_toArray, List.eraseIdxIfInBounds_toArray, erase_last]
 · rw [List.length_dropLast]
   omega
def rPopAt : V → List V → Hp → VK → Prop := fun x vs H Q => ∃ l xs i k y, x = .ref l ∧ vs = [.int i] ∧ H l = some (.lst xs) ∧ -(2 ^ 63) ≤ i ∧ i < 2 ^ 63 ∧ seqIndex? i xs.length = some k ∧ xs[k]? = some y ∧ Q y (upd H l (.lst (xs.eraseIdx k)))
theorem mt_popAt : MtM X "list.pop" rPopAt := by
 intro pins s σ H x vs v us Q I rx rv h
 obtain ⟨l, xs, i, k, y, rfl, rfl, hH, h1, h2, hk, hy, q⟩ := h
 cases rx
 obtain ⟨u, rfl, ru⟩ := rv.one
 obtain ⟨t, rfl⟩ := ru
 obtain ⟨z, its, n, r, hl, e⟩ := I.lstM hH
 obtain ⟨w, hw, rw'⟩ := r.get hy
 refine call_meets F.slot_list_pop ⟨_, e, rfl⟩ F.entry_list_pop (F.args_list_pop_2 _ _)
   (MeetsSeq.list_pop_at l its.toArray n i t k w (fitsIndex_both h1 h2) (by rw [List.size_toArray, ← hl]; exact hk) (by rw [← Array.getElem?_toList]; exact hw) (by rw [List.size_toArray]; omega)) ⟨e, ?_⟩
 refine ⟨y, _, I.lset (its' := its.eraseIdx k) hH e ?_ (r.eraseIdx k) ?_, rw', q⟩
 · show its.toArray.eraseIdxIfInBounds k = (its.eraseIdx k).toArray
   rw [List.eraseIdxIfInBounds_toArray]
 · have := len_erase xs k
   omega
def rCat : R2 := fun x y H Q => ∃ l b xs zs, x = .ref l ∧ y = .ref b ∧ H l = some (.lst xs) ∧ H b = some (.lst zs) ∧ xs.length + zs.length ≤ sizeLine ∧ ∀ p, H p = none → Q (.ref p) (upd H p (.lst (xs ++ zs)))
theorem op_cat : OpR X (binaryOp .Add) rCat := by
 intro pins s σ H x y v u Q I rx ry h
 obtain ⟨l, b, xs, zs, rfl, rfl, hH, hB, hz, q⟩ := h
 cases rx
 cases ry
 obtain ⟨z, its, n, r, hl, e⟩ := I.lstM hH
 obtain ⟨z2, its2, n2, r2, hl2, e2⟩ := I.lstM hB
 refine PySem.P.add_list e e2 ?_ (by rw [List.size_toArray, List.size_toArray]; omega)
 have ea : its.toArray ++ its2.toArray = (its ++ its2).toArray := by simp
 rw [ea]
 exact ⟨.ref _, _, I.lnew (t' := s.toks) (r.append r2) (by rw [List.length_append]; omega), rfl, q _ I.fresh⟩
end
end L2
namespace L2
open PySem PySem.Spec PyProof.Rows
section
variable {κ : Type} [DecidableEq κ]
def valV (kvs : List (κ × V)) (k : κ) : Option V := (kvs.find? fun kv => decide (kv.1 = k)).map (·.2)
def putK (kvs : List (κ × V)) (k : κ) (v : V) : List (κ × V) :=
 if (kvs.any fun kv => decide (kv.1 = k)) = true then kvs.map (fun kv => if kv.1 = k then (kv.1, v) else kv) else kvs ++ [(k, v)]
theorem valV_pos {p : κ × V} {r : List (κ × V)} {k : κ} (e : p.1 = k) : valV (p :: r) k = some p.2 := by simp [valV, List.find?_cons, e]
theorem valV_neg {p : κ × V} {r : List (κ × V)} {k : κ} (e : ¬ p.1 = k) : valV (p :: r) k = valV r k := by simp [valV, List.find?_cons, e]
theorem valV_any (k : κ) : ∀ kvs : List (κ × V), (kvs.any fun kv => decide (kv.1 = k)) = (valV kvs k).isSome
 | [] => rfl
 | p :: r => by
   rw [List.any_cons]
   by_cases e : p.1 = k
   · simp only [valV_pos e, decide_eq_true e, Bool.true_or, Option.isSome_some]
   · rw [valV_neg e, decide_eq_false e, Bool.false_or]; exact valV_any k r
theorem length_putK (kvs : List (κ × V)) (k : κ) (v : V) : (putK kvs k v).length ≤ kvs.length + 1 := by
 unfold putK
 split
 · rw [List.length_map]; omega
 · rw [List.length_append, List.length_cons, List.length_nil]; omega
theorem RelO.isSome_eq {o : Option V} {u : Option Value} (r : RelO o u) : o.isSome = u.isSome := by
 cases o with
 | none => cases u with
   | none => rfl
   | some _ => exact (show False from r).elim
 | some _ => cases u with
   | none => exact (show False from r).elim
   | some _ => rfl
theorem KV.val {kvs : List (κ × V)} {vs : List (κ × Value)} (r : KV kvs vs) (k : κ) : RelO (valV kvs k) (valueAt vs k) := by
 unfold KV at r
 induction r with
 | nil => exact True.intro
 | @cons p q ps qs h t ih =>
   obtain ⟨h1, h2⟩ := h
   by_cases e : p.1 = k
   · have e' : q.1 = k := h1.symm.trans e
     have b : valueAt (q :: qs) k = some q.2 := by simp [valueAt, List.find?_cons, e']
     rw [valV_pos e, b]; exact h2
   · have e' : ¬ q.1 = k := fun z => e (h1.trans z)
     have b : valueAt (q :: qs) k = valueAt qs k := by simp [valueAt, List.find?_cons, e']
     rw [valV_neg e, b]; exact ih
theorem KV.any {kvs : List (κ × V)} {vs : List (κ × Value)} (r : KV kvs vs) (k : κ) : (kvs.any fun kv => decide (kv.1 = k)) = vs.any fun kv => decide (kv.1 = k) := by
 unfold KV at r
 induction r with
 | nil => rfl
 | cons h t ih => rw [List.any_cons, List.any_cons, ih, h.1]
theorem KV.repl {kvs : List (κ × V)} {vs : List (κ × Value)} (r : KV kvs vs) (k : κ) {y : V} {u : Value} (ry : RelV y u) :
   KV (kvs.map fun kv => if kv.1 = k then (kv.1, y) else kv) (vs.map fun kv => if kv.1 = k then (kv.1, u) else kv) := by
 unfold KV at r ⊢
 induction r with
 | nil => exact .nil
 | @cons p q ps qs h t ih =>
   rw [List.map_cons, List.map_cons]
   refine .cons ?_ ih
   obtain ⟨h1, h2⟩ := h
   by_cases e : p.1 = k
   · rw [if_pos e, if_pos (h1.symm.trans e)]; exact ⟨h1, ry⟩
   · rw [if_neg e, if_neg (fun z => e (h1.trans z))]; exact ⟨h1, h2⟩
theorem KV.put {kvs : List (κ × V)} {vs : List (κ × Value)} (r : KV kvs vs) (k : κ) {y : V} {u : Value} (ry : RelV y u) : KV (putK kvs k y) (stored vs k u) := by
 unfold putK stored
 rw [r.any k]
 by_cases e : (vs.any fun kv => decide (kv.1 = k)) = true
 · rw [if_pos e, if_pos e]; exact r.repl k ry
 · rw [if_neg e, if_neg e]; exact Paired.snoc r ⟨rfl, ry⟩
theorem KV.length {kvs : List (κ × V)} {vs : List (κ × Value)} (r : KV kvs vs) : kvs.length = vs.length := Paired.length r
end
theorem kV_is {P : Program} {w : World} {k : Key} {u : Value} (r : RelV (kV k) u) : (mixKind P w).is k u = true := by
 cases k with
 | inl i => obtain ⟨t, e⟩ := (show ∃ t, u = Value.int i t from r); subst e; exact mixKind_int P w i t
 | inr x => obtain ⟨t, e⟩ := (show ∃ t, u = Value.str x t from r); subst e; exact mixKind_str P w x t
theorem items_are {P : Program} {w : World} : ∀ {ks : List Key} {us : List Value}, Vals (ks.map kV) us → ItemsAre (mixKind P w) ks us
 | [], _, r => by rw [List.map_nil] at r; cases r; exact .nil
 | k :: ks, _, r => by
   rw [List.map_cons] at r
   cases r with
   | cons h t => exact .cons (kV_is h) (items_are t)
abbrev KT (H : Hp) : List (List Key × V) → List (List Key × Addr × Value) → Prop := Paired fun p q => p.1 = q.1 ∧ H q.2.1 = some (.tup (p.1.map kV)) ∧ RelV p.2 q.2.2
theorem KT.val {H : Hp} {kvs : List (List Key × V)} {xs : List (List Key × Addr × Value)} (r : KT H kvs xs) (k : List Key) : RelO (valV kvs k) ((atKey xs k).map (·.2)) := by
 induction r with
 | nil => exact True.intro
 | @cons p q ps qs h t ih =>
   obtain ⟨h1, _, h2⟩ := h
   by_cases e : p.1 = k
   · have e' : q.1 = k := h1.symm.trans e
     have b : atKey (q :: qs) k = some q.2 := by simp [atKey, List.find?_cons, e']
     rw [valV_pos e, b]; exact h2
   · have e' : ¬ q.1 = k := fun z => e (h1.trans z)
     have b : atKey (q :: qs) k = atKey qs k := by simp [atKey, List.find?_cons, e']
     rw [valV_neg e, b]; exact ih
theorem KT.repl {H : Hp} {kvs : List (List Key × V)} {xs : List (List Key × Addr × Value)} (r : KT H kvs xs) (k : List Key) {y : V} {u : Value} (ry : RelV y u) :
   KT H (kvs.map fun kv => if kv.1 = k then (kv.1, y) else kv) (xs.map (putAt k u)) := by
 induction r with
 | nil => exact .nil
 | @cons p q ps qs h t ih =>
   rw [List.map_cons, List.map_cons]
   refine .cons ?_ ih
   obtain ⟨h1, h2, h3⟩ := h
   unfold putAt
   by_cases e : p.1 = k
   · rw [if_pos e, if_pos (h1.symm.trans e)]; exact ⟨h1, h2, ry⟩
   · rw [if_neg e, if_neg (fun z => e (h1.trans z))]; exact ⟨h1, h2, h3⟩
theorem KT.put {H : Hp} {kvs : List (List Key × V)} {xs : List (List Key × Addr × Value)} (r : KT H kvs xs) (k : List Key) {b : Addr} {y : V} {u : Value} (hb : H b = some (.tup (k.map kV))) (ry : RelV y u) :
   KT H (putK kvs k y) (storedH xs k b u) := by
 have e : (kvs.any fun kv => decide (kv.1 = k)) = (atKey xs k).isSome := by
   rw [valV_any, (r.val k).isSome_eq, Option.isSome_map]
 unfold putK storedH
 rw [e]
 by_cases q : (atKey xs k).isSome = true
 · rw [if_pos q, if_pos q]; exact r.repl k ry
 · rw [if_neg q, if_neg q]; exact Paired.snoc r ⟨rfl, hb, ry⟩
theorem KT.keeps {H H' : Hp} {kvs : List (List Key × V)} {xs : List (List Key × Addr × Value)} (r : KT H kvs xs) (ht : ∀ b ys, H b = some (.tup ys) → H' b = some (.tup ys)) : KT H' kvs xs :=
 Paired.mapP r fun _ _ z => ⟨z.1, ht _ _ z.2.1, z.2.2⟩
section
variable {P : Program} {w : World} {H : Hp} {h : Heap} {a : Addr}
theorem rd_of {u : HO} (ok : HOk P w H h) (e : Rd H a u) : ObjOk P w H h a u := e.ok ok
theorem dk_rd {kvs : List (Key × V)} (ok : HOk P w H h) (e : Rd H a (.dK kvs)) : kvs.length ≤ sizeLine ∧ (a == sysModules) = false ∧ ∃ vs, KV kvs vs ∧ h.DictOf (mixKind P w) a vs :=
 show ObjOk P w H h a (.dK kvs) from rd_of ok e
theorem dk_of {kvs : List (Key × V)} (ok : HOk P w H h) (e : H a = some (.dK kvs)) : kvs.length ≤ sizeLine ∧ (a == sysModules) = false ∧ ∃ vs, KV kvs vs ∧ h.DictOf (mixKind P w) a vs := dk_rd ok (.inl e)
theorem key_of {ks : List Key} (ok : HOk P w H h) (e : H a = some (.tup (ks.map kV))) : (tupleKind (mixKind P w)).is h ks a := by
 obtain ⟨_, its, r, o, h1, h2, n, h3⟩ := (show ObjOk P w H h a (.tup (ks.map kV)) from ok a _ e)
 exact ⟨o, its.toArray, n, h1, h2, h3, by simpa using items_are r⟩
theorem dt_rd {kvs : List (List Key × V)} (ok : HOk P w H h) (e : Rd H a (.dT kvs)) : kvs.length ≤ sizeLine ∧ (a == sysModules) = false ∧
   ∃ xs, KT H kvs xs ∧ h.DictOfH (tupleKind (mixKind P w)) a xs := by
 obtain ⟨z, y, xs, r, o, es, ep, h1, h2, h3, h4, h5⟩ := (show ObjOk P w H h a (.dT kvs) from rd_of ok e)
 refine ⟨z, y, xs, r, o, es, ep, h1, h2, h3, h4, fun x hx => ?_, h5⟩
 have all : ∀ {l : List (List Key × V)} {m : List (List Key × Addr × Value)}, KT H l m → ∀ x ∈ m, (tupleKind (mixKind P w)).is h x.1 x.2.1 := by
   intro l m q
   induction q with
   | nil => intro x hx; exact nomatch hx
   | @cons p q ps qs hq t ih =>
     intro x hx
     rcases List.mem_cons.mp hx with e | hx
     · subst e
       exact key_of ok (by rw [← hq.1]; exact hq.2.1)
     · exact ih x hx
 exact all r x hx
theorem dt_of {kvs : List (List Key × V)} (ok : HOk P w H h) (e : H a = some (.dT kvs)) : kvs.length ≤ sizeLine ∧ (a == sysModules) = false ∧
   ∃ xs, KT H kvs xs ∧ h.DictOfH (tupleKind (mixKind P w)) a xs := dt_rd ok (.inl e)
end
def DGet (H : Hp) (a : Addr) (y : V) (r : Option V) : Prop :=
 (∃ kvs k, Rd H a (.dK kvs) ∧ y = kV k ∧ r = valV kvs k) ∨ ∃ kvs k b, Rd H a (.dT kvs) ∧ y = .ref b ∧ H b = some (.tup (k.map kV)) ∧ r = valV kvs k
def DPut (H : Hp) (a : Addr) (y v : V) (H' : Hp) : Prop :=
 (∃ kvs k, H a = some (.dK kvs) ∧ y = kV k ∧ kvs.length < sizeLine ∧ H' = upd H a (.dK (putK kvs k v))) ∨
 ∃ kvs k b, H a = some (.dT kvs) ∧ y = .ref b ∧ H b = some (.tup (k.map kV)) ∧ kvs.length < sizeLine ∧ H' = upd H a (.dT (putK kvs k v))
section
variable {X : Cx} {pins : List (Addr × Obj)} {σ : St} {H : Hp} {s : Shared} {a : Addr} {y v : V} {u r : Value} {o : Option V} {A : Around} {E : Value → Shared → Prop}
theorem Inv.big (I : Inv X pins σ H s) : sysModules < s.heap.objs.size := by
 have h : mainGlobals < s.heap.objs.size := (I.mod.glob.keeps I.bk).lt
 exact Nat.lt_trans (by decide) h
theorem d_getItem {Q : Value → Shared → Prop} (hu : A.units + 1 < cLine) (I : Inv X pins σ H s) (g : DGet H a y (some v)) (ry : RelV y u) (h : ∀ w' s', Inv X pins σ H s' → RelV v w' → Q w' s') :
   wpAny (model X.prog X.w) A (getItem (.ref a) u) Q E s := by
 rcases g with ⟨kvs, k, e, ey, l⟩ | ⟨kvs, k, b, e, ey, eb, l⟩
 · subst ey
   obtain ⟨z, hd, vs, rel, dd⟩ := dk_rd I.hok e
   obtain ⟨w', hw, rw'⟩ := RelO.some_of (v := v) (o := valueAt vs k) (by rw [l]; exact rel.val k)
   exact wpAny_getItem_of (kV_is ry) dd.mapOf hw (h w' _ (I.tok _) rw')
 · subst ey
   cases (show u = Value.ref b from ry)
   obtain ⟨z, hd, xs, rel, dd⟩ := dt_rd I.hok e
   obtain ⟨w', hw, rw'⟩ := RelO.some_of (v := v) (o := (atKey xs k).map (·.2)) (by rw [l]; exact rel.val k)
   obtain ⟨p, hp, hp2⟩ := Option.map_eq_some_iff.mp hw
   refine wpAny_getItem_heap (tupleKind_room_in1 hu) (key_of I.hok eb) dd hp ?_
   rw [hp2]
   exact h w' _ (I.tok _) rw'
theorem d_write {h' : Heap} {t' : Nat} {ob : HO} (I : Inv X pins σ H s) (mu : Mut (H a)) (hs : Heap.SameBut a s.heap h') (he : ∃ q, h'.get? a = some q) (new : ObjOk X.prog X.w (upd H a ob) h' a ob) :
   Inv X pins σ (upd H a ob) { s with heap := h', toks := t' } :=
 I.write (x := a) (e := a) mu (.inl rfl) (fun b q hb z => (hs.2 b hb).trans z) he new
theorem dk_new {P : Program} {w : World} {H' : Hp} {h' : Heap} {kvs : List (Key × V)} {vs : List (Key × Value)} (z : kvs.length ≤ sizeLine) (hd : (a == sysModules) = false) (rel : KV kvs vs) (dd : h'.DictOf (mixKind P w) a vs) :
   ObjOk P w H' h' a (.dK kvs) := ⟨z, hd, vs, rel, dd⟩
theorem d_setItem {H' : Hp} {Q : Unit → Shared → Prop} (hu : A.units + 1 < cLine) (I : Inv X pins σ H s) (g : DPut H a y v H') (ry : RelV y u) (rv : RelV v r) (h : ∀ s', Inv X pins σ H' s' → Q () s') :
   wpAny (model X.prog X.w) A (setItem (.ref a) u r) Q E s := by
 rcases g with ⟨kvs, k, e, ey, l, eH⟩ | ⟨kvs, k, b, e, ey, eb, l, eH⟩
 · subst ey eH
   obtain ⟨z, hd, vs, rel, dd⟩ := dk_of I.hok e
   have hz : vs.length ≤ sizeLine := by rw [← rel.length]; exact z
   have hl : (putK kvs k v).length ≤ sizeLine := by have := length_putK kvs k v; omega
   refine wpAny_setItem_pairs (hsz := hz) (kV_is ry) dd fun h' dd' hs => h _ ?_
   have he : ∃ q, h'.get? a = some q := let ⟨q, _, _, hq, _⟩ := dd'; ⟨q, hq⟩
   exact d_write I (by rw [e]; exact True.intro) hs he (dk_new hl hd (rel.put k rv) dd')
 · subst ey eH
   cases (show u = Value.ref b from ry)
   obtain ⟨z, hd, xs, rel, dd⟩ := dt_of I.hok e
   have hz : xs.length ≤ sizeLine := by rw [← Paired.length rel]; exact z
   have hl : (putK kvs k v).length ≤ sizeLine := by have := length_putK kvs k v; omega
   refine wpAny_setItem_heap (hsz := hz) (tupleKind_room_in1 hu) (key_of I.hok eb) dd fun h' dd' hs => h _ ?_
   obtain ⟨q, es, ep, hq, h2, h3, h4, _, h5⟩ := dd'
   refine d_write I (by rw [e]; exact True.intro) hs ⟨q, hq⟩ ⟨hl, hd, _, (rel.put k eb rv).keeps fun c ys ec => ?_, q, es, ep, hq, h2, h3, h4, h5⟩
   rw [upd_ne (ne_of ec e (fun z => nomatch z))]
   exact ec
end
def NoSl (i : Expr) : Prop := ∀ ov iv, subscripted i false ov iv = operate [ov, iv] (getItem ov iv)
theorem subD_of {prog : Program} {w : World} {A : Around} {E : Value → Shared → Prop} {s : Shared} {env : Env} {value slice : Expr} {pos : Pos} {T id : String} {Q : Value → Shared → Prop}
   (hl : typeLookup (.type T) "__getitem__" = pure (some (.builtin id))) (hs : NoSl slice)
   (h : wpAny (model prog w) A (eval value env) (fun o s₁ => wpAny (model prog w) A (eval slice env) (fun i s₂ => s₂.TypeIs o T ∧ wpAny (model prog w) A (getItem o i) Q E s₂) E s₁) E s) :
   wpAny (model prog w) A (eval (.Subscript value slice pos) env) Q E s := by
 refine Subscript_ (wpAny_mono h (fun o s₁ h₁ => wpAny_mono h₁ (fun i s₂ h₂ => ?_) fun _ _ x => x) fun _ _ x => x)
 obtain ⟨hT, h₂⟩ := h₂
 unfold subscriptTail
 refine wpAny_bind ?_
 rw [getitemInPython_of_ne hT.not_modules]
 refine wpAny_bind (wpAny_specialOf hT hl ?_)
 have fin : wpAny (model prog w) A (subscripted slice false o i) (fun r s₃ => wpAny (model prog w) A (letTemporaryGo value o r >>= fun _ => pure r) Q E s₃) E s₂ := by
   rw [hs o i]
   exact wpAny_operating (wpAny_mono h₂ (fun r s₃ h₃ => wpAny_bind (wpAny_letTemporaryGo (wpAny_pure h₃))) fun _ _ x => x)
 first
   | exact wpAny_pure (wpAny_bind fin)
   | exact wpAny_bind (wpAny_pure (wpAny_bind fin))
   | exact wpAny_bind fin
theorem dict_typeIs {X : Cx} {pins : List (Addr × Obj)} {σ : St} {H : Hp} {s : Shared} {a : Addr} {y : V} {o : Option V} (I : Inv X pins σ H s) (g : DGet H a y o) : s.TypeIs (.ref a) "dict" := by
 rcases g with ⟨kvs, k, e, _, _⟩ | ⟨kvs, k, b, e, _, _, _⟩
 · obtain ⟨_, _, vs, _, dd⟩ := dk_rd I.hok e
   exact dd.typeIs
 · obtain ⟨_, _, xs, _, dd⟩ := dt_rd I.hok e
   exact dd.typeIs
def tDGet (td ty : TE) : TE := fun σ H Q => td σ H fun x H1 => ty σ H1 fun y H2 => ∃ a v, x = .ref a ∧ DGet H2 a y (some v) ∧ Q v H2
def sDPut (td ty tv : TE) : TS := fun D σ H => tv σ H fun v H1 => td σ H1 fun x H2 => ty σ H2 fun y H3 => ∃ a H4, x = .ref a ∧ DPut H3 a y v H4 ∧ D.nx σ H4
section
variable {X : Cx} {o i e value : Expr} {pos pos' tpos : Pos} {td ty tv : TE}
theorem pe_dget (hu : X.A.units + 1 < cLine) (ho : PE X o td) (hi : PE X i ty) (hs : NoSl i) : PE X (.Subscript o i pos) (tDGet td ty) := by
 intro pins s σ H Q I h
 refine subD_of PySem.F.slot_dict_getitem.lookup hs (thn (ho pins s σ H _ I h) fun u s1 ⟨x, H1, I1, rx, q1⟩ => thn (hi pins s1 σ H1 _ I1 q1) fun iv s2 ⟨y, H2, I2, ry, a, v, ex, g, q2⟩ => ?_)
 subst ex
 obtain rfl : u = Value.ref a := rx
 exact ⟨dict_typeIs I2 g, d_getItem hu I2 g ry fun w' s3 I3 rw' => ⟨v, H2, I3, rw', q2⟩⟩
theorem ps_dput (hu : X.A.units + 1 < cLine) (ho : PE X o td) (hi : PE X i ty) (hv : PE X value tv) (hs : swapsWith value (some (.Subscript o i pos')) pos.line X.env = pure false) :
   PS X (.Assign [.Subscript o i pos'] value pos) (sDPut td ty tv) := by
 intro pins s σ H D I h
 refine wpAny_Assign_Subscript (thn (hv pins s σ H _ I h) fun r s1 ⟨v, H1, I1, rv, q1⟩ => thn (ho pins s1 σ H1 _ I1 q1) fun u s2 ⟨x, H2, I2, rx, q2⟩ => thn (hi pins s2 σ H2 _ I2 q2) fun iv s3 ⟨y, H3, I3, ry, a, H4, ex, g, q3⟩ => ?_) hs
 subst ex
 obtain rfl : u = Value.ref a := rx
 exact d_setItem hu I3 g ry rv fun s4 I4 => ⟨σ, H4, I4, q3⟩
end
theorem dk_empty {P : Program} {w : World} {H : Hp} (h : Heap) (hb : sysModules < h.objs.size) : ObjOk P w H (h.push { cls := .type "dict", data := .dict #[] }) h.objs.size (.dK []) :=
 ⟨Nat.zero_le _, beq_eq_false_iff_ne.mpr (Ne.symm (Nat.ne_of_lt hb)), [], .nil, Heap.DictOf.new h⟩
def tPairs : List (TE × TE) → St → Hp → (List (V × V) → Hp → Prop) → Prop
 | [], _, H, Q => Q [] H
 | (tk, tv) :: r, σ, H, Q => tk σ H fun x H1 => tv σ H1 fun y H2 => tPairs r σ H2 fun ps H3 => Q ((x, y) :: ps) H3
abbrev VV : List (V × V) → List (Value × Value) → Prop := Paired fun p q => RelV p.1 q.1 ∧ RelV p.2 q.2
def PPs (X : Cx) (pos : Pos) (keys : List (Option Expr)) (values : List Expr) (trs : List (TE × TE)) : Prop :=
 ∀ (pins : List (Addr × Obj)) (s : Shared) (σ : St) (H : Hp) (Q : List (V × V) → Hp → Prop), Inv X pins σ H s → tPairs trs σ H Q →
   wpAny (model X.prog X.w) X.A (evalPairs (pairTrees keys values X.env pos)) (fun vs s' => ∃ ps H', Inv X pins σ H' s' ∧ VV ps vs ∧ Q ps H') X.xe s
theorem pps_nil {X : Cx} {pos : Pos} : PPs X pos [] [] [] := fun pins s σ H Q I h => pairTrees_nil_walk ⟨[], H, I, .nil, h⟩
theorem pps_cons {X : Cx} {pos : Pos} {k v : Expr} {ks : List (Option Expr)} {vs : List Expr} {tk tv : TE} {trs : List (TE × TE)} (hk : PE X k tk) (hv : PE X v tv) (hr : PPs X pos ks vs trs) :
   PPs X pos (some k :: ks) (v :: vs) ((tk, tv) :: trs) := fun pins s σ H Q I h =>
 pairTrees_cons_walk (thn (hk pins s σ H _ I h) fun u s1 ⟨x, H1, I1, rx, q1⟩ => thn (hv pins s1 σ H1 _ I1 q1) fun w2 s2 ⟨y, H2, I2, ry, q2⟩ =>
   thn (hr pins s2 σ H2 _ I2 q2) fun ws s3 ⟨ps, H3, I3, rel, q3⟩ => ⟨(x, y) :: ps, H3, I3, .cons ⟨rx, ry⟩ rel, q3⟩)
def mergeK (kvs more : List (Key × V)) : List (Key × V) := more.foldl (fun acc kv => putK acc kv.1 kv.2) kvs
theorem KV.merge : ∀ {more : List (Key × V)} {rs : List (Key × Value)} {kvs : List (Key × V)} {vs : List (Key × Value)}, KV more rs → KV kvs vs → KV (mergeK kvs more) (merged vs rs) := by
 intro more rs kvs vs r
 unfold KV at r
 induction r generalizing kvs vs with
 | nil => intro q; exact q
 | @cons p q ps qs h t ih =>
   intro r0
   have e : KV (putK kvs p.1 p.2) (stored vs q.1 q.2) := by
     have := r0.put p.1 h.2
     rw [← h.1]; exact this
   exact ih e
theorem length_mergeK : ∀ (more kvs : List (Key × V)), (mergeK kvs more).length ≤ kvs.length + more.length
 | [], kvs => by show kvs.length ≤ kvs.length + 0; omega
 | p :: r, kvs => by
   have h1 := length_mergeK r (putK kvs p.1 p.2)
   have h2 := length_putK kvs p.1 p.2
   show (mergeK (putK kvs p.1 p.2) r).length ≤ _
   rw [List.length_cons]; omega
theorem carries_of {P : Program} {w : World} : ∀ {kvs : List (Key × V)} {ws : List (Value × Value)}, VV (kvs.map fun kv => (kV kv.1, kv.2)) ws → ∃ rs, Carries (mixKind P w) ws rs ∧ KV kvs rs
 | [], _, r => by rw [List.map_nil] at r; cases r; exact ⟨[], True.intro, .nil⟩
 | p :: kvs, _, r => by
   rw [List.map_cons] at r
   cases r with
   | @cons a b as bs h t =>
     obtain ⟨rs, c, q⟩ := carries_of (P := P) (w := w) t
     obtain ⟨b1, b2⟩ := b
     exact ⟨(p.1, b2) :: rs, ⟨kV_is h.1, rfl, c⟩, .cons ⟨rfl, h.2⟩ q⟩
def tDisp (trs : List (TE × TE)) : TE := fun σ H Q => ∀ p, H p = none → tPairs trs σ (upd H p (.dK [])) fun ps H2 => H2 p = some (.dK []) ∧ ∃ kvs : List (Key × V), ps = kvs.map (fun kv => (kV kv.1, kv.2)) ∧ kvs.length ≤ 15 ∧ Q (.ref p) (upd H2 p (.dK (mergeK [] kvs)))
theorem pe_disp {X : Cx} {pos : Pos} {keys : List (Option Expr)} {values : List Expr} {trs : List (TE × TE)} (h : PPs X pos keys values trs) (hall : keys.all (·.isSome) = true) (hl : keys.length = values.length) (h0 : keys ≠ [])
   (h15 : keys.length ≤ 15) : PE X (.Dict keys values pos) (tDisp trs) := by
 intro pins s σ H Q I q
 have hn := I.hok.fresh (Nat.le_refl s.heap.objs.size)
 have I1 := I.laid (a := s.heap.objs.size) (o := .dK []) (h' := s.heap.push { cls := .type "dict", data := .dict #[] }) (t' := s.toks) (fun _ _ q => Heap.get?_push_of_some _ q) (Nat.le_refl _) (dk_empty s.heap I.big)
 refine wpAny_Dict_walk (knd := mixKind X.prog X.w) hall hl h0 h15 (thn (h pins _ σ _ _ I1 (q _ hn)) fun ws s2 ⟨ps, H2, I2, rel, e, kvs, ep, lk, q2⟩ => ?_)
 subst ep
 obtain ⟨rs, c, rk⟩ := carries_of (P := X.prog) (w := X.w) rel
 obtain ⟨z, hd, vs0, r0, dd⟩ := dk_of I2.hok e
 cases r0
 refine ⟨rs, c, dd, fun h' dd' hs => ⟨.ref s.heap.objs.size, _, ?_, rfl, q2⟩⟩
 have hz : (mergeK [] kvs).length ≤ sizeLine := by
   have h1 := length_mergeK kvs []
   rw [List.length_nil] at h1
   rw [sizeLine_eq]; omega
 have he : ∃ q, h'.get? s.heap.objs.size = some q := let ⟨q, _, _, hq, _⟩ := dd'; ⟨q, hq⟩
 exact d_write I2 (by rw [e]; exact True.intro) hs he (dk_new hz hd (rk.merge .nil) dd')
end L2
namespace Att
open PySem PySem.W PySem.Calls PyProof.Rows
theorem ints_of_wellAll {P : Params} {h : Heap} : ∀ (ns : List Int) (vs : List Value), WellAll P h vs (ns.map WData.int) → IntsAre vs ns := by
 intro ns
 induction ns with
 | nil =>
   intro vs w
   rw [List.map_nil] at w
   cases w
   exact .nil
 | cons n ns ih =>
   intro vs w
   rw [List.map_cons] at w
   cases w with
   | cons a b =>
     cases a
     exact .cons _ _ (ih _ b)
theorem script_of {l : OpenLaw} {n : Nat} (hn : l.most = some n) {P : Params} {h : Heap} {args : List WData} {vals : List Value}
   (hpre : l.row.toRowW.claim.pre args = true) (hwl : WellAll P h vals args) :
   ∃ a vs ns, vals = [Value.ref a] ∧ args = [WData.list (ns.map WData.int)] ∧ h.get? a = some { cls := .type "list", data := .seq vs.toArray } ∧ IntsAre vs ns ∧ ns.length ≤ n := by
 have hsh : WShape.hasAll [] args [.list .int] = true := (pre_splitW hpre).1
 have hc : l.pre.holds [] { args := args } = true := (pre_splitW hpre).2
 obtain ⟨d, r, rfl, h1, h2⟩ := hasAllW_cons hsh
 obtain rfl := hasAllW_nil h2
 obtain ⟨xs, rfl, h3⟩ := hasW_list h1
 obtain ⟨ns, rfl⟩ := items_int h3
 have hlen : ns.length ≤ n := by
   unfold OpenLaw.pre at hc
   have h4 : (WTm.not (.lt (.lit (.int (n : Int))) (.len (.arg 0)))).holds [] { args := [.list (ns.map .int)] } = true := by
     have h4 := (holds_andW hc).1
     rw [hn] at h4
     exact h4
   have h5 := condW_of h4 (w_not (w_lt w_lit (w_len_list (w_arg rfl))))
   rw [List.length_map] at h5
   refine Nat.le_of_not_lt fun q => ?_
   have q' : (n : Int) < ((ns.length : Nat) : Int) := by omega
   first
     | (rw [decide_eq_true q'] at h5; exact absurd h5 (by decide))
     | (simp at h5; omega)
 cases hwl with
 | cons w1 w2 =>
   cases w2
   cases w1 with
   | list ho hall => exact ⟨_, _, ns, rfl, rfl, ho, ints_of_wellAll ns _ hall, hlen⟩
theorem post_true (l : OpenLaw) (args : List WData) : l.row.toRowW.claim.post args (.bool true) args = true :=
 postW_of (r := l.row.toRowW) (X := (true == true))
   (show WShape.has [] (.bool true) .bool = true by first | rfl | decide | simp [WShape.has, WShape.arms, WShape.armsAll])
   (show (WTm.eq .res (.lit (.bool true))).value [] { args := args, res := some (.bool true), after := args } = some (.bool (true == true)) from w_eq_bool (w_res rfl) w_lit) rfl
theorem attach_call {l : OpenLaw} {n : Nat} {q : Program} {loose : List Str} {XP : (Str → Option Value) → Heap → Prop} {YP : World → Heap → Prop} {d : DefRec}
   (hn : l.most = some n) (hdf : d.params.defaults = [])
   (call : ∀ (w : World) (s₀ s₁ : Shared) (mg mb : Str → Option Value) (fa : Addr) (o : Obj) (pm cd doc : Value) (a : Addr) (vs : List Value) (ns : List Int),
     Ground q loose [] XP w s₀ mg mb s₁.heap → YP w s₁.heap →
     s₁.heap.get? fa = some o → o.data = .func (docDef d.name d.params d.body d.scope pm cd doc) → s₁.heap.CodeRec cd d.name → mg d.name = some (.ref fa) →
     s₁.heap.get? a = some { cls := .type "list", data := .seq vs.toArray } → IntsAre vs ns → ns.length ≤ n → s₁.gens = #[] →
     codeAny (model l.prog w) callerA (.call (.ref fa) ⟨[.ref a], []⟩) (fun r s' => r = .ok (.ret (.bool true)) ∧ OldK s₁.heap s'.heap ∧ s'.os = s₁.os ∧ AllBare s'.gens) s₁) :
   WalkO q loose XP YP l.row.toRowW d [] (fun f vs => PySem.call f vs) := by
 intro w s₀ s₁ mg mb G Y fa o pm cd doc dV kV ho hd hcd hD hmg hg args vals as hpre hlay hrd hwl hlo
 obtain rfl : dV = .none := Dflts.none hD hdf
 obtain rfl : kV = .none := Dflts.noKw hD
 obtain ⟨a, vs, ns, rfl, rfl, hobj, hints, hlen⟩ := script_of hn hpre hwl
 refine enter_call (codeAny_mono (call w s₀ s₁ mg mb fa o pm cd doc a vs ns G Y ho (fd_plain hd) hcd hmg hobj hints hlen hg) fun r s' hq => ?_)
 obtain ⟨rfl, h2, h3, h4⟩ := hq
 exact ⟨.inl ⟨.bool true, .bool true, [], rfl, fun _ => rfl, .bool true, post_true l _, fun _ => ⟨List.Pairwise.nil, fun _ hm => (nomatch hm)⟩⟩, h2, h3, h4⟩
end Att
namespace L2
open PySem PySem.Spec PyProof.Rows
theorem vals_ints : ∀ {vs : List Value} {ns : List Int}, IntsAre vs ns → Vals (ns.map V.int) vs
 | _, _, .nil => .nil
 | _, _, .cons n t h => .cons ⟨t, rfl⟩ (vals_ints h)
def Only (H : Hp) : Prop := ∀ b, H b = none ∨ ∃ o xs, H b = some (.frz o (.lst xs))
theorem law_call {P : Program} {w : World} {K : PySem.W.Frag} {mg mb : Str → Option Value} {CX : CXT} {k : Nat} {fa a : Addr} {fd : FuncData} {x : Str} {sp : Sp} {s₁ : Shared} {vs : List Value} {ns : List Int}
   (KX : K.In s₁.heap) (hns : s₁.heap.Ns mainGlobals mg) (hb : s₁.heap.Ns builtinsNs mb) (hbb : ∀ x : Str, x ≠ "__name__" → mb x = bootBuiltins x) (hlim : s₁.heap.NoLimit) (hg : s₁.gens = #[])
   (ha : s₁.heap.get? a = some { cls := .type "list", data := .seq vs.toArray }) (hi : IntsAre vs ns) (hl : ns.length ≤ sizeLine) (hr : Room k callerA)
   (F : ∀ base : Heap, K.In base → base.Ns mainGlobals mg → FnOk P w K mg base CX k fa fd [x] sp) (hbind : ∀ (s : Shared) (u : Value), BindsTo s fd ⟨[u], []⟩ [(x, u)])
   (hsp : ∀ H : Hp, Only H → SqL K H a (ns.map V.int) → sp [.ref a] H (fun v _ => v = .bl true) fun _ _ _ => False)
   (hCX : ∀ H e s', CX [] H s₁ (fun _ _ _ => False) e s' → False) :
   codeAny (model P w) callerA (.call (.ref fa) ⟨[.ref a], []⟩) (fun r s' => r = .ok (.ret (.bool true)) ∧ OldK s₁.heap s'.heap ∧ s'.os = s₁.os ∧ AllBare s'.gens) s₁ := by
 have rv := vals_ints hi
 have lenV := hi.length
 -- from an abstract heap in which nothing but the script may be tracked
 have core : ∀ H : Hp, Only H → SqL K H a (ns.map V.int) → HOk P w H s₁.heap → (∀ b, H b ≠ none → b = a) → (H a ≠ none → K.lookup a = none) →
     codeAny (model P w) callerA (.call (.ref fa) ⟨[.ref a], []⟩) (fun r s' => r = .ok (.ret (.bool true)) ∧ OldK s₁.heap s'.heap ∧ s'.os = s₁.os ∧ AllBare s'.gens) s₁ := by
   intro H hO hS hok hA hK
   have base_of : ∀ {b : Addr} {o : Obj}, s₁.heap.get? b = some o → H b = none → (hidT s₁.heap H).get? b = some o := fun e n => hidT_get e n
   have noA : ∀ {b : Addr} {o : Obj} {es : Array DictEntry} {ep : Nat}, s₁.heap.get? b = some o → o.data = .dict es ep → H b = none := fun {b o es ep} e d => by
     cases q : H b with
     | none => rfl
     | some u =>
       have e' : b = a := hA b (by rw [q]; simp)
       subst e'
       rw [ha] at e; cases e
       have d' : Data.seq vs.toArray _ = Data.dict es ep := d
       cases d'
   have nsK : ∀ {b : Addr} {m : Str → Option Value}, s₁.heap.Ns b m → (hidT s₁.heap H).Ns b m := fun {b m} ⟨o, es, ep, e, d, r⟩ => ⟨o, es, ep, base_of e (noA e d), d, r⟩
   have hKb : K.In (hidT s₁.heap H) := fun b o e => base_of (KX b o e) (by
     cases q : H b with
     | none => rfl
     | some u =>
       have e' : b = a := hA b (by rw [q]; simp)
       subst e'
       rw [hK (by rw [q]; simp)] at e; cases e)
   have hM : Mod K mg (hidT s₁.heap H) := ⟨hKb, nsK hns, ⟨mb, nsK hb, hbb⟩, let ⟨mc, h1, h2⟩ := hlim; ⟨mc, nsK h1, h2⟩⟩
   have e0 : Env0 P w K mg (hidT s₁.heap H) callerA [] s₁ H := ⟨rfl, hM, fun b o e => of_hidT e, Nat.le_of_eq (hidT_size _ _), trivial, fun b hb => absurd (show b ∈ ([] : List Addr) from hb) (by simp), hok, .of_eq hg⟩
   refine codeAny_mono ((F _ hKb (nsK hns)).run callerA [] s₁ H ⟨[.ref a], []⟩ [.ref a] [.ref a] _ _ hr e0 (hbind s₁ (.ref a)) (.cons rfl .nil) (hsp H hO hS)) fun r s' h => ?_
   cases r with
   | error e => exact (hCX H e s' h).elim
   | ok fl =>
     cases fl with
     | next => exact False.elim h
     | brk => exact False.elim h
     | cont => exact False.elim h
     | ret u =>
       obtain ⟨v, H', os, bare, un, hok', r', q⟩ := h
       have q' : v = .bl true := q
       subst q'
       obtain rfl : u = Value.bool true := r'
       refine ⟨rfl, OldK.of_keep fun b o e => ?_, os, bare⟩
       cases q : H b with
       | none => exact un.keep b o e q (by intro z; exact absurd (show b ∈ ([] : List Addr) from z) (by simp)) (by simp)
       | some u =>
         rcases hO b with z | ⟨ob, xs, z⟩
         · rw [q] at z; cases z
         · have z2 := un.frzs b ob _ z
           obtain ⟨e1, _⟩ := hok b _ z
           obtain ⟨e2, _⟩ := hok' b _ z2
           rw [e] at e1; cases e1
           exact e2
 cases hk : K.lookup a with
 | some o =>
   -- the script is one of the module's own objects
   have e := KX a o hk
   rw [ha] at e
   cases e
   refine core (fun _ => none) (fun _ => .inl rfl) (.inr ⟨_, vs.toArray, _, hk, rfl, rfl, rfl, by rw [List.size_toArray, lenV]; exact hl, by simpa using rv⟩) (fun b u z => by have z' : (none : Option HO) = some u := z; cases z') (fun b z => absurd rfl z) fun z => absurd rfl z
 | none =>
   refine core (fun b => if b = a then some (.frz { cls := .type "list", data := .seq vs.toArray } (.lst (ns.map V.int))) else none) (fun b => ?_) (.inl (.inr ⟨{ cls := .type "list", data := .seq vs.toArray }, if_pos rfl⟩)) (fun b u z => ?_) (fun b z => ?_) fun _ => hk
   · by_cases hb : b = a
     · exact .inr ⟨_, _, if_pos hb⟩
     · exact .inl (if_neg hb)
   · by_cases hb : b = a
     · have z' := (if_pos hb).symm.trans z
       cases z'
       subst hb
       exact ⟨ha, by rw [List.length_map]; exact hl, vs, _, rv, ha⟩
     · have z' := (if_neg hb).symm.trans z
       cases z'
   · by_cases hb : b = a
     · exact hb
     · exact absurd (if_neg hb) z
end L2
namespace L2
open PySem PySem.Spec PyProof.Rows
theorem walk_of {l : PySem.W.OpenLaw} {n k : Nat} {q : Program} {loose : List Str} {XP : (Str → Option Value) → Heap → Prop} {YP : World → Heap → Prop} {d : DefRec} {K : Params → PySem.W.Frag} {CX : World → CXT} {sp : World → Sp} {x : Str}
   (hn : l.most = some n) (hn2 : n ≤ sizeLine) (hdf : d.params.defaults = []) (hr : Room k callerA)
   (hY : ∀ (w : World) (h : Heap), YP w h → (K w.params).In h)
   (F : ∀ (w : World) (mg : Str → Option Value) (fa : Addr) (h : Heap), (K w.params).In h → h.Ns mainGlobals mg → mg d.name = some (.ref fa) →
     ∃ fd : FuncData, (∀ (s : Shared) (u : Value), BindsTo s fd ⟨[u], []⟩ [(x, u)]) ∧
       ∀ base : Heap, (K w.params).In base → base.Ns mainGlobals mg → FnOk l.prog w (K w.params) mg base (CX w) k fa fd [x] (sp w))
   (hsp : ∀ (w : World) (H : Hp) (a : Addr) (ns : List Int), ns.length ≤ n → Only H → SqL (K w.params) H a (ns.map V.int) → sp w [.ref a] H (fun v _ => v = .bl true) fun _ _ _ => False)
   (hCX : ∀ (w : World) (H : Hp) (s : Shared) (e : Value) (s' : Shared), CX w [] H s (fun _ _ _ => False) e s' → False) :
   PySem.W.WalkO q loose XP YP l.row.toRowW d [] (fun f vs => PySem.call f vs) := by
 refine Att.attach_call hn hdf fun w s₀ s₁ mg mb fa o pm cd doc a vs ns G Y ho hd hcd hmg hobj hints hlen hg => ?_
 have KX := hY w _ Y
 obtain ⟨fd, hb, hF⟩ := F w mg fa _ KX G.T.g hmg
 exact law_call KX G.T.g G.T.b G.T.builtins G.T.nolimit hg hobj hints (Nat.le_trans hlen hn2) hr hF hb (fun H hO hS => hsp w H a ns hlen hO hS) fun H e s' => hCX w H s₁ e s'
end L2
namespace L2
open PySem PySem.Spec PyProof.Rows
def defArgs (s : Stmt) : Arguments := match s with
 | .FunctionDef _ a _ _ _ _ _ _ _ _ => a
 | _ => { posonlyargs := [], args := [], vararg := none, kwonlyargs := [], kw_defaults := [], kwarg := none, defaults := [] }
def defBody (s : Stmt) : List Stmt := match s with
 | .FunctionDef _ _ b _ _ _ _ _ _ _ => b
 | _ => []
def defScope (s : Stmt) : Scope := match s with
 | .FunctionDef _ _ _ _ _ _ sc _ _ _ => sc
 | _ => { kind := .function, names := [], isGenerator := false, isCoroutine := false }
abbrev CX0 : CXT := fun _ _ _ _ _ _ => False
abbrev E0 : XK := fun _ _ _ => False
theorem pass0 {X : Cx} : Passes CX0 X E0 := fun _ _ _ _ _ _ _ h => h.elim
structure Fun (K : PySem.W.Frag) (x qual : Str) (st : Stmt) (f : Addr) (fd : FuncData) : Prop where
 ex : ∃ (oc : Value) (od : Option Addr) (kV doc pm : Value) (an : Option Addr) (cdv ct : Value) (osl : Array (Option Value)),
   fd = PySem.W.fnOf x qual (defArgs st) (defBody st) (defScope st) .none kV doc pm an cdv ct ∧ K.lookup f = some ⟨oc, od, .func fd, osl⟩ ∧ PySem.W.codeIn K cdv qual = true
 kp : PySem.W.keepIn K (.ref f) = true
section
variable {P : Program} {w : World} {K : PySem.W.Frag} {mg : Str → Option Value} {base : Heap}
theorem Fun.ok {x qual : Str} {st : Stmt} {f : Addr} {fd : FuncData} {N ps : List Str} {k : Nat} {sp : Sp} (F : Fun K x qual st f fd) (S : FnScope N ps (defScope st)) (len : ∀ vs H Q E, sp vs H Q E → vs.length = ps.length)
   (hbody : ∀ (cdv : Value) (A : Around) (outer : List Env) (s : Shared) (H : Hp) (vs : List V) (Q : VK) (E : XK), Room k (A.deeper (envOfC qual (defScope st) s.heap.objs.size f cdv)) → sp vs H Q E →
     ∃ t, PSs (cxOf CX0 P w K mg base N qual (defScope st) f cdv A outer s H E).nox (defBody st) t ∧ t { nx := fun _ H' => Q .non H', rt := Q } (start N vs) H) : FnOk P w K mg base CX0 (k + 1) f fd ps sp := by
 obtain ⟨oc, od, kV, doc, pm, an, cdv, ct, osl, rfl, lk, hcd⟩ := F.ex
 refine fn_of lk hcd S len fun A outer s H vs Q E hr hsp => ?_
 obtain ⟨t, h, q⟩ := hbody cdv A outer s H vs Q E hr hsp
 exact ⟨t, h.nox, q⟩
theorem Fun.binds {x qual : Str} {st : Stmt} {f : Addr} {fd : FuncData} {ps : List Str} (F : Fun K x qual st f fd)
   (h : ∀ (kV doc pm : Value) (an : Option Addr) (cdv ct : Value) (us : List Value), us.length = ps.length → bindArgs (PySem.W.fnOf x qual (defArgs st) (defBody st) (defScope st) .none kV doc pm an cdv ct) ⟨us, []⟩ = pure (ps.zip us)) : Binds K fd ps [] := by
 obtain ⟨oc, od, kV, doc, pm, an, cdv, ct, osl, rfl, lk, hcd⟩ := F.ex
 exact .all (h kV doc pm an cdv ct)
theorem fun_mk {x qual : Str} {st : Stmt} {f : Addr} {oc : Value} {od an : Option Addr} {osl : Array (Option Value)} {kV doc pm cdv ct : Value} (l : K.lookup f = some ⟨oc, od, .func (PySem.W.fnOf x qual (defArgs st) (defBody st) (defScope st) .none kV doc pm an cdv ct), osl⟩)
   (c : PySem.W.codeIn K cdv qual = true) (k : PySem.W.keepIn K (.ref f) = true) : Fun K x qual st f (PySem.W.fnOf x qual (defArgs st) (defBody st) (defScope st) .none kV doc pm an cdv ct) := ⟨⟨oc, od, kV, doc, pm, an, cdv, ct, osl, rfl, l, c⟩, k⟩
end
theorem hu_of {A : Around} {k : Nat} (hr : Room k A) : A.units + 1 < cLine := Nat.lt_of_le_of_lt (Nat.add_le_add_left (by decide : 1 ≤ 64) _) hr.units
theorem iteF {A B : Prop} (h : B) : if false = true then A else B := by
 rw [if_neg Bool.false_ne_true]
 exact h
theorem iteT {A B : Prop} (h : A) : if true = true then A else B := by
 rw [if_pos rfl]
 exact h
theorem ite2 {c A B : Prop} [Decidable c] (h1 : c → A) (h2 : ¬ c → B) : if c then A else B := by
 by_cases h : c
 · rw [if_pos h]
   exact h1 h
 · rw [if_neg h]
   exact h2 h
def Same (H H' : Hp) : Prop := ∀ b o, H b = some o → H' b = some o
theorem Same.refl (H : Hp) : Same H H := fun _ _ h => h
theorem Same.trans {H H1 H2 : Hp} (a : Same H H1) (b : Same H1 H2) : Same H H2 := fun c o h => b c o (a c o h)
theorem Same.free {H H' : Hp} (e : Same H H') {l : Addr} (h : H' l = Option.none) : H l = Option.none := by
 cases q : H l with
 | none => rfl
 | some o =>
   rw [e l o q] at h
   cases h
theorem Same.seq {K : PySem.W.Frag} {H H' : Hp} {a : Addr} {xs : List V} (e : Same H H') (h : SqL K H a xs) : SqL K H' a xs := by
 rcases h with (h | ⟨o, h⟩) | h
 · exact .inl (.inl (e _ _ h))
 · exact .inl (.inr ⟨o, e _ _ h⟩)
 · exact .inr h
end L2
set_option maxHeartbeats 4000000
namespace L3
open PySem PySem.Spec
open PyProof.Rows hiding St
open L2
theorem forIn_pure {α β : Type} {l : List α} {f : α → β → Sem (ForInStep β)} (g : α → β → β) : ∀ (c : β), (∀ x ∈ l, ∀ c, f x c = pure (.yield (g x c))) → forIn l c f = pure (l.foldl (fun c x => g x c) c) := by
 induction l with
 | nil => intro c _; rfl
 | cons x l ih =>
   intro c h
   rw [List.forIn_cons, h x List.mem_cons_self, pure_bind]
   exact ih (g x c) fun y hy => h y (List.mem_cons_of_mem _ hy)
def clOf (ns : List (Str × NameKind)) (env : Env) : List (Str × Addr) := ns.foldl (fun cs x => if x.2 == .free then (x.1, (env.cells.lookup x.1).getD 0) :: cs else cs) []
theorem closure_ok {scope : Scope} {env : Env} (h : ∀ p ∈ scope.names, p.2 = .free → ∃ c, env.cells.lookup p.1 = some c) : closureFor scope env = pure (clOf scope.names env) := by
 simp only [closureFor]
 unfold clOf
 rw [forIn_pure (fun (x : Str × NameKind) (cs : List (Str × Addr)) => if x.2 == .free then (x.1, (env.cells.lookup x.1).getD 0) :: cs else cs)]
 · rfl
 · intro x hx c
   obtain ⟨n, k⟩ := x
   dsimp only
   by_cases hk : k = .free
   · subst hk
     obtain ⟨a, ha⟩ := h _ hx rfl
     have ha' : env.cells.lookup n = some a := ha
     simp only [beq_self_eq_true, if_true, cellOf, ha', pure_bind, Option.getD_some]
   · have hb : (k == NameKind.free) = false := by simpa using hk
     simp only [hb, Bool.false_eq_true, if_false]
theorem cl_fold {env : Env} {x : Str} : ∀ (ns : List (Str × NameKind)) (acc : List (Str × Addr)) (c : Addr),
   (ns.foldl (fun cs y => if y.2 == .free then (y.1, (env.cells.lookup y.1).getD 0) :: cs else cs) acc).lookup x = some c → acc.lookup x = some c ∨ ((x, NameKind.free) ∈ ns ∧ c = (env.cells.lookup x).getD 0) := by
 intro ns
 induction ns with
 | nil => intro acc c h; exact .inl h
 | cons y r ih =>
   intro acc c h
   obtain ⟨n, k⟩ := y
   rw [List.foldl_cons] at h
   rcases ih _ c h with h1 | ⟨h1, h2⟩
   · by_cases hk : k = .free
     · subst hk
       simp only [beq_self_eq_true, if_true] at h1
       by_cases hx : x = n
       · subst hx
         rw [List.lookup_cons_self] at h1
         cases h1
         exact .inr ⟨List.mem_cons_self, rfl⟩
       · have hb : (x == n) = false := by simpa using hx
         rw [List.lookup_cons, hb] at h1
         exact .inl h1
     · have hb : (k == NameKind.free) = false := by simpa using hk
       simp only [hb, Bool.false_eq_true, if_false] at h1
       exact .inl h1
   · exact .inr ⟨List.mem_cons_of_mem _ h1, h2⟩
theorem cl_fold_has {env : Env} {x : Str} : ∀ (ns : List (Str × NameKind)) (acc : List (Str × Addr)), (acc.lookup x).isSome = true ∨ (x, NameKind.free) ∈ ns →
   ((ns.foldl (fun cs y => if y.2 == .free then (y.1, (env.cells.lookup y.1).getD 0) :: cs else cs) acc).lookup x).isSome = true := by
 intro ns
 induction ns with
 | nil => intro acc h; rcases h with h | h
          · exact h
          · exact absurd h (by simp)
 | cons y r ih =>
   intro acc h
   obtain ⟨n, k⟩ := y
   rw [List.foldl_cons]
   refine ih _ ?_
   by_cases hk : k = .free
   · subst hk
     simp only [beq_self_eq_true, if_true]
     by_cases hx : x = n
     · subst hx
       left
       rw [List.lookup_cons_self]
       rfl
     · have hb : (x == n) = false := by simpa using hx
       rw [List.lookup_cons, hb]
       rcases h with h | h
       · exact .inl h
       · rcases List.mem_cons.mp h with z | z
         · injection z with z1 _
           exact absurd z1 hx
         · exact .inr z
   · have hb : (k == NameKind.free) = false := by simpa using hk
     simp only [hb, Bool.false_eq_true, if_false]
     rcases h with h | h
     · exact .inl h
     · rcases List.mem_cons.mp h with z | z
       · injection z with _ z2
         exact absurd z2.symm hk
       · exact .inr z
theorem cl_of {ns : List (Str × NameKind)} {env : Env} {x : Str} {c : Addr} (h : (clOf ns env).lookup x = some c) : (x, NameKind.free) ∈ ns ∧ c = (env.cells.lookup x).getD 0 := by
 rcases cl_fold ns [] c h with z | z
 · cases z
 · exact z
theorem cl_has {ns : List (Str × NameKind)} {env : Env} {x : Str} {c : Addr} (h : (x, NameKind.free) ∈ ns) (e : env.cells.lookup x = some c) : (clOf ns env).lookup x = some c := by
 obtain ⟨d, hd⟩ := Option.isSome_iff_exists.mp (cl_fold_has (env := env) ns [] (.inr h))
 have hd' : (clOf ns env).lookup x = some d := hd
 rw [hd', (cl_of hd').2, e]
 rfl
theorem lookup_relabel {env : Env} {x : Str} : ∀ (names : List (Str × NameKind)),
   (names.map fun (n, k) => if (k == NameKind.free && env.scope.kind == .function && env.kindOf n == some .cell) then (n, NameKind.cell) else (n, k)).lookup x =
     (names.lookup x).map fun k => if (k == NameKind.free && env.scope.kind == .function && env.kindOf x == some .cell) then NameKind.cell else k
 | [] => rfl
 | (n, k) :: r => by
   have ih := lookup_relabel (env := env) (x := x) r
   show List.lookup x ((if (k == NameKind.free && env.scope.kind == .function && env.kindOf n == some .cell) = true then (n, NameKind.cell) else (n, k)) :: _) = _
   by_cases hx : x = n
   · subst hx
     by_cases hc : (k == NameKind.free && env.scope.kind == .function && env.kindOf x == some .cell) = true
     · rw [if_pos hc, List.lookup_cons_self, List.lookup_cons_self, Option.map_some, if_pos hc]
     · rw [if_neg hc, List.lookup_cons_self, List.lookup_cons_self, Option.map_some, if_neg hc]
   · have hb : (x == n) = false := by simpa using hx
     by_cases hc : (k == NameKind.free && env.scope.kind == .function && env.kindOf n == some .cell) = true
     · rw [if_pos hc, List.lookup_cons, hb, List.lookup_cons, hb]; exact ih
     · rw [if_neg hc, List.lookup_cons, hb, List.lookup_cons, hb]; exact ih
def compCx (X : Cx) (scope : Scope) (N' : List Str) (C : Addr) (s : Shared) (H : Hp) (ex : List Addr) : Cx :=
 { X with N := N', s₀ := s, H₀ := H, env := compEnvC scope (clOf scope.names X.env) C X.env, outer := X.stack, stack := X.stack, ex := ex, fn := fun _ => false, pn := [], xe := fun _ _ => False }
def scopeOk (h : Nat) (N' N : List Str) (names sc : List (Str × NameKind)) : Bool :=
 decide (N'.length = h + N.length) && decide N'.Nodup
 && (names.all fun p => p.2 != .cell && (p.2 != .local || names.lookup p.1 == some .local) && (p.2 != .free || (names.lookup p.1 == some .free && (sc.lookup p.1 == some .cell || sc.lookup p.1 == some .free))))
 && (((N'.drop h).zip N).all fun p => match names.lookup p.1 with | some .free => p.1 == p.2 | some .local => false | some .cell => false | _ => true)
structure ScopeOk (h : Nat) (N' N : List Str) (scope : Scope) (sc : Scope) : Prop where
 kind : scope.kind = .function
 len : N'.length = h + N.length
 nd : N'.Nodup
 nocell : ∀ y ∈ scope.names, y.2 ≠ .cell
 loc : ∀ y ∈ scope.names, y.2 = .local → scope.names.lookup y.1 = some .local
 free : ∀ y ∈ scope.names, y.2 = .free → scope.names.lookup y.1 = some .free ∧ (sc.names.lookup y.1 = some .cell ∨ sc.names.lookup y.1 = some .free)
 out : ∀ (i : Nat) (x : Str) (k : NameKind), N'[h + i]? = some x → scope.names.lookup x = some k → (k = .local ∨ k = .cell ∨ k = .free) → N[i]? = some x ∧ k = .free
theorem ScopeOk.of {h : Nat} {N' N : List Str} {scope sc : Scope} (hk : scope.kind = .function) (e : scopeOk h N' N scope.names sc.names = true) : ScopeOk h N' N scope sc := by
 unfold scopeOk at e
 simp only [Bool.and_eq_true, decide_eq_true_eq, List.all_eq_true] at e
 obtain ⟨⟨⟨e1, e2⟩, e3⟩, e4⟩ := e
 refine ⟨hk, e1, e2, fun y hy z => ?_, fun y hy z => ?_, fun y hy z => ?_, fun i x k hx hl hkk => ?_⟩
 · have := e3 y hy
   rw [z] at this
   simp at this
 · have := e3 y hy
   rw [z] at this
   simpa using this
 · have := e3 y hy
   rw [z] at this
   simpa using this
 · have h1 : (N'.drop h)[i]? = some x := by rw [List.getElem?_drop]; exact hx
   have hi : i < N.length := by
     obtain ⟨z, _⟩ := List.getElem?_eq_some_iff.mp hx
     omega
   have h2 : N[i]? = some N[i] := List.getElem?_eq_getElem hi
   have hm : (x, N[i]) ∈ (N'.drop h).zip N := by
     refine List.mem_of_getElem? (i := i) ?_
     rw [List.getElem?_zip_eq_some]
     exact ⟨h1, h2⟩
   have q := e4 _ hm
   rw [hl] at q
   rcases hkk with rfl | rfl | rfl
   · exact absurd q (by simp)
   · exact absurd q (by simp)
   · have q' : x = N[i] := by simpa using q
     exact ⟨by rw [h2, ← q'], rfl⟩
def PF (X : Cx) (ifs : List Expr) (t : TT) : Prop :=
 ∀ (pins : List (Addr × Obj)) (s : Shared) (σ : St) (H : Hp) (Q : Bool → Hp → Prop), Inv X pins σ H s → t σ H Q →
   wpAny (model X.prog X.w) X.A (forIn ifs true fun c r => if r = true then do let ok ← isTrue c X.env (eval c X.env); pure (ForInStep.yield ok) else pure (ForInStep.yield r)) (TP X pins σ Q) X.xe s
def tYes : TT := fun _ H Q => Q true H
theorem pf_nil {X : Cx} : PF X [] tYes := fun _ _ _ H _ I h => wpAny_tests_nil ⟨H, I, h⟩
theorem pf_one {X : Cx} {c : Expr} {t : TT} (h : PT X c t) : PF X [c] t := fun pins s σ H Q I q => wpAny_tests_one (h pins s σ H Q I q)
def OwnG (h : Nat) (g : TG) : Prop := ∀ v (σ : St) H Q, h ≤ σ.length → g v σ H Q → g v σ H fun σ2 H2 => Q σ2 H2 ∧ σ2.length = σ.length ∧ σ2.drop h = σ.drop h
theorem own_name {h i : Nat} (hi : i < h) : OwnG h (gName i) := fun v σ H Q hl q => ⟨q, by simp, by rw [List.drop_set_of_lt hi]⟩
def OwnGs (h : Nat) (g : TGs) : Prop := ∀ vs (σ : St) H Q, h ≤ σ.length → g vs σ H Q → g vs σ H fun σ2 H2 => Q σ2 H2 ∧ σ2.length = σ.length ∧ σ2.drop h = σ.drop h
theorem own_nil {h : Nat} : OwnGs h gNil := fun vs σ H Q _ q => ⟨q.1, q.2, rfl, rfl⟩
def MonG (g : TG) : Prop := ∀ v σ H (Q Q' : St → Hp → Prop), (∀ σ H, Q σ H → Q' σ H) → g v σ H Q → g v σ H Q'
def MonGs (g : TGs) : Prop := ∀ v σ H (Q Q' : St → Hp → Prop), (∀ σ H, Q σ H → Q' σ H) → g v σ H Q → g v σ H Q'
theorem mon_name {i : Nat} : MonG (gName i) := fun _ _ _ _ _ h q => h _ _ q
theorem mon_nil : MonGs gNil := fun _ _ _ _ _ h q => ⟨q.1, h _ _ q.2⟩
theorem mon_cons {g : TG} {gs : TGs} (a : MonG g) (b : MonGs gs) : MonGs (gCons g gs) := fun vs σ H Q Q' h ⟨v, r, e, q⟩ => ⟨v, r, e, a _ _ _ _ _ (fun σ' H' z => b _ _ _ _ _ h z) q⟩
theorem own_cons {h : Nat} {g : TG} {gs : TGs} (m : MonG g) (m2 : MonGs gs) (a : OwnG h g) (b : OwnGs h gs) : OwnGs h (gCons g gs) := fun vs σ H Q hl ⟨v, r, e, q⟩ => by
 refine ⟨v, r, e, m _ _ _ _ _ (fun σ' H' z => ?_) (a v σ H _ hl q)⟩
 obtain ⟨z1, z2, z3⟩ := z
 exact m2 _ _ _ _ _ (fun σ2 H2 ⟨y1, y2, y3⟩ => ⟨y1, y2.trans z2, y3.trans z3⟩) (b r σ' H' Q (by omega) z1)
theorem own_tup {K : PySem.W.Frag} {h n : Nat} {gs : TGs} (b : OwnGs h gs) : OwnG h (gTup K n gs) := fun v σ H Q hl ⟨a, xs, e1, e2, e3, q⟩ => ⟨a, xs, e1, e2, e3, b xs σ H Q hl q⟩
def tComp (h : Nat) (wi : TI) (g : TG) (tf : TT) (te : TE) : TE := fun σ H Q => wi σ H fun J H1 => ∀ D, H1 D = none → ∃ W : Nat → Nat → List V → Hp → Prop, (∃ m, W 0 m [] (upd H1 D (.lst []))) ∧ ∀ i m ys H, W i m ys H →
 H D = some (.lst ys) ∧ ((J.stop i H ∧ Q (.ref D) H) ∨ (J.go i H ∧ ∀ x H', J.yld i H x H' → g x (List.replicate h none ++ σ) H' fun σ2 H2 => tf σ2 H2 fun c H3 =>
   if c = true then te σ2 H3 fun y H4 => H4 D = some (.lst ys) ∧ ys.length < sizeLine ∧ ∃ m', m' < m ∧ W (i + 1) m' (ys ++ [y]) (upd H4 D (.lst (ys ++ [y]))) else ∃ m', m' < m ∧ W (i + 1) m' ys H3))
theorem compLoop_go {prog : Program} {w : World} {A : Around} {R : Result → Shared → Prop} {s : Shared} {elt target iter : Expr} {ifs : List Expr} {scope : Scope} {pos : Pos} {it acc : Value} {env : Env} (I : Nat → Shared → Prop)
   (turn : ∀ n s, I n s → wpAny (model prog w) A (pyNext it) (fun r s₁ => match r with
     | none => R (.ok .next) s₁
     | some v => wpAny (model prog w) A (letOwnedTupleGo target it v) (fun _ s₀ => wpAny (model prog w) A (assign target env v) (fun _ s₂ =>
         wpAny (model prog w) A (forIn ifs true fun c r => if r = true then do let ok ← isTrue c env (eval c env); pure (ForInStep.yield ok) else pure (ForInStep.yield r)) (fun ok s₃ =>
           if ok = true then wpAny (model prog w) A (eval elt env) (fun x s₄ =>
             wpAny (model prog w) A (call (.builtin "list.append") [acc, x]) (fun _ s₅ => ∃ m, m < n ∧ I m s₅) (fun _ _ => False) s₄) (fun _ _ => False) s₃
           else ∃ m, m < n ∧ I m s₃) (fun _ _ => False) s₂) (fun _ _ => False) s₀) (fun _ _ => False) s₁) (fun _ _ => False) s)
   (n : Nat) (h : I n s) : codeAny (model prog w) A (.compLoop (.ListComp elt [⟨target, iter, ifs, 0⟩] scope pos) 0 it acc env) R s := by
 refine codeAny_loop rfl I (fun n s hI => ?_) n h
 show wpAny _ A ((compTurn (.ListComp elt [⟨target, iter, ifs, 0⟩] scope pos) 0 it acc env).onRaise (fun x => do noteFrame x env; theTreesLotGoes x)) _ _ s
 refine wpAny_noted ?_
 rw [compTurn_list]
 refine wpAny_bind (wpAny_standAt (wpAny_bind (wpAny_mono (turn n s hI) (fun r s₁ h₁ => ?_) fun _ _ h' => h'.elim)))
 cases r with
 | none => exact wpAny_pure h₁
 | some v =>
   refine wpAny_bind (wpAny_mono h₁ (fun _ s₀ h₀ => ?_) fun _ _ h' => h'.elim)
   refine wpAny_bind (wpAny_mono h₀ (fun _ s₂ h₂ => wpAny_bind (wpAny_mono h₂ (fun ok s₃ h₃ => ?_) fun _ _ h' => h'.elim)) fun _ _ h' => h'.elim)
   cases ok with
   | false => exact wpAny_pure ⟨rfl, h₃⟩
   | true =>
     exact wpAny_bind (wpAny_bind (wpAny_mono h₃ (fun x s₄ h₄ => wpAny_bind (wpAny_mono h₄ (fun _ s₅ h₅ => wpAny_pure (wpAny_pure ⟨rfl, h₅⟩)) fun _ _ h' => h'.elim)) fun _ _ h' => h'.elim))
section
variable {X : Cx} {pins : List (Addr × Obj)} {σ : St} {H : Hp} {s : Shared}
theorem comp_ok {h : Nat} {N' : List Str} {scope : Scope} {fp : List Addr} (I : Inv X pins σ H s) (S : ScopeOk h N' X.N scope X.env.scope) (hf : ∀ b ∈ fp, FpOk X pins H b) (hlt : ∀ b ∈ fp, b < s.heap.objs.size) :
   (compCx X scope N' s.heap.objs.size s H fp).Ok := by
 have cl : ∀ x c, (clOf scope.names X.env).lookup x = some c → X.env.cells.lookup x = some c := fun x c e => by
   obtain ⟨h1, h2⟩ := cl_of e
   obtain ⟨d, hd⟩ := I.ok.has x (S.free _ h1 rfl).2
   rw [hd] at h2 ⊢
   rw [h2]; rfl
 refine ⟨I.ok.mod, ?_, I.ok.glob, I.ok.blt, Nat.le_refl _, fun x y c e1 e2 => I.ok.inj x y c (cl x c e1) (cl y c e2), fun x hx => ?_, fun x c z => ?_, I.ok.hd, I.ok.frames, .inl rfl, fun b hb => ⟨Nat.ne_of_lt (hlt b hb), fun x c e => (hf b hb).2.2.2.2.1 x c (cl x c e)⟩, fun b o e => I.bs b o e, Nat.le_trans I.ok.bsz I.sz, fun b o e hb => ?_, fun b hb z => ?_, I.stack, I.stkFree⟩
 · exact S.kind
 · have hx' : (relabel scope X.env).names.lookup x = some .cell ∨ (relabel scope X.env).names.lookup x = some .free := hx
   have e := lookup_relabel (env := X.env) (x := x) scope.names
   have hl : scope.names.lookup x = some .free := by
     cases q : scope.names.lookup x with
     | none => rw [q] at e; rcases hx' with z | z <;> (have z' := e.symm.trans z; cases z')
     | some k =>
       rw [q, Option.map_some] at e
       by_cases hk : k = .free
       · rw [hk]
       · have hc : ¬ (k == NameKind.free && X.env.scope.kind == .function && X.env.kindOf x == some .cell) = true := by
           have : (k == NameKind.free) = false := by simpa using hk
           rw [this]; simp
         rw [if_neg hc] at e
         rcases hx' with z | z
         · have z' := e.symm.trans z
           cases z'
           exact absurd rfl (S.nocell _ (PySem.mem_of_lookup q))
         · have z' := e.symm.trans z
           cases z'
           rfl
   have hm := PySem.mem_of_lookup hl
   obtain ⟨c, hc⟩ := I.ok.has x (S.free _ hm rfl).2
   exact ⟨c, cl_has hm hc⟩
 · exact absurd z Bool.false_ne_true
 · rcases (hf b hb).2.2.2.1 with z | z
   · exact I.ok.noex b o e z
   · exact absurd (Nat.lt_of_lt_of_le (Heap.lt_size (I.ok.bs b o e).1) z) (Nat.lt_irrefl _)
 · obtain ⟨_, f1, f2, _⟩ := hf b hb
   rcases List.mem_cons.mp (I.stkSub b z) with q | q
   · exact f1 q
   · exact f2 q
theorem comp_cl {h : Nat} {N' : List Str} {scope : Scope} (I : Inv X pins σ H s) (S : ScopeOk h N' X.N scope X.env.scope) : ∀ x c, (clOf scope.names X.env).lookup x = some c → X.env.cells.lookup x = some c := fun x c e => by
 obtain ⟨h1, h2⟩ := cl_of e
 obtain ⟨d, hd⟩ := I.ok.has x (S.free _ h1 rfl).2
 rw [hd] at h2 ⊢
 rw [h2]; rfl
theorem comp_start {h : Nat} {N' : List Str} {scope : Scope} {fp : List Addr} {h' : Heap} {tk : Nat} (I : Inv X pins σ H s) (S : ScopeOk h N' X.N scope X.env.scope) (hf : ∀ b ∈ fp, FpOk X pins H b) (hlt : ∀ b ∈ fp, b < s.heap.objs.size)
   (hn : h'.Ns s.heap.objs.size fun _ => none) (kp : ∀ b o, s.heap.get? b = some o → h'.get? b = some o) :
   Inv (compCx X scope N' s.heap.objs.size s H fp) [] (List.replicate h none ++ σ) H { s with heap := h', toks := tk } := by
 have ok := comp_ok I S hf hlt
 have cl := comp_cl I S
 refine ⟨ok, rfl, I.bare, Un.kept kp, ⟨_, hn, fun i x v e1 e2 e3 => ?_⟩, fun x c e => ?_, I.hok.fresh (Nat.le_refl _), fun x c e => I.freeC x c (cl x c e), fun p hp => absurd (show p ∈ ([] : List (Addr × Obj)) from hp) (by simp), I.hok.kept kp, ?_⟩
 · have e1 : N'[i]? = some x := e1
   by_cases hi : i < h
   · rw [List.getElem?_append_left (by simpa using hi), List.getElem?_replicate, if_pos hi] at e2
     cases e2
   · obtain ⟨j, rfl⟩ : ∃ j, i = h + j := ⟨i - h, by omega⟩
     rw [List.getElem?_append_right (by simp), List.length_replicate, Nat.add_sub_cancel_left] at e2
     have e3 : Vis (relabel scope X.env) x := e3
     have er := lookup_relabel (env := X.env) (x := x) scope.names
     have hl : ∃ k, scope.names.lookup x = some k ∧ (k = .local ∨ k = .cell ∨ k = .free) ∧ (relabel scope X.env).names.lookup x = some (if (k == NameKind.free && X.env.scope.kind == .function && X.env.kindOf x == some .cell) then NameKind.cell else k) := by
       cases q : scope.names.lookup x with
       | none => rw [q] at er; rcases e3 with z | z | z <;> (have z' := er.symm.trans z; cases z')
       | some k =>
         rw [q, Option.map_some] at er
         refine ⟨k, rfl, ?_, er⟩
         by_cases hc : (k == NameKind.free && X.env.scope.kind == .function && X.env.kindOf x == some .cell) = true
         · simp only [Bool.and_eq_true, beq_iff_eq] at hc
           exact .inr (.inr hc.1.1)
         · rw [if_neg hc] at er
           rcases e3 with z | z | z <;> (have z' := er.symm.trans z; cases z'; simp)
     obtain ⟨k, hk, hkk, hre⟩ := hl
     obtain ⟨hN, rfl⟩ := S.out j x k e1 hk hkk
     have hm := PySem.mem_of_lookup hk
     have hfr := (S.free _ hm rfl).2
     obtain ⟨m, hnm, hlk⟩ := I.loc
     obtain ⟨u, ru, lk⟩ := hlk j x v hN e2 (by rcases hfr with z | z; exact .inr (.inl z); exact .inr (.inr z))
     refine ⟨u, ru, ?_⟩
     rcases lk with ⟨hloc, _⟩ | ⟨hkd, c, hc, hcell⟩
     · have hloc : X.env.scope.names.lookup x = some .local := hloc
       rcases hfr with z | z <;> (rw [hloc] at z; cases z)
     · refine .inr ⟨?_, c, cl_has hm hc, ?_⟩
       · show (relabel scope X.env).names.lookup x = some .cell ∨ (relabel scope X.env).names.lookup x = some .free
         rw [hre]
         split
         · exact .inl rfl
         · exact .inr rfl
       · obtain ⟨o, ho, hd⟩ := hcell
         exact ⟨o, kp c o ho, hd⟩
 · obtain ⟨v, o, ho, hd⟩ := I.cell x c (cl x c e)
   exact ⟨v, o, kp c o ho, hd⟩
 · show (List.replicate h none ++ σ).length = N'.length
   rw [List.length_append, List.length_replicate, S.len, I.len]
theorem comp_end {h : Nat} {N' : List Str} {scope : Scope} {fp : List Addr} {pins' : List (Addr × Obj)} {σ' : St} {H' : Hp} {s' : Shared} {h' : Heap} (I : Inv X pins σ H s) (S : ScopeOk h N' X.N scope X.env.scope) (hf : ∀ b ∈ fp, FpOk X pins H b)
   (J : Inv (compCx X scope N' s.heap.objs.size s H fp) pins' σ' H' s') (hs : Heap.SameBut s.heap.objs.size s'.heap h') : Inv X pins σ H' { s' with heap := h' } := by
 have ne : ∀ b o, s.heap.get? b = some o → b ≠ s.heap.objs.size := fun b o e => Nat.ne_of_lt (Heap.lt_size e)
 have u : Un (frs X.stack) fp H H' s.heap s'.heap := J.base
 have hC : H' s.heap.objs.size = none := J.free
 obtain ⟨m0, ⟨oC, _, _, hoC, _⟩, _⟩ := id J.loc
 refine I.call' (s' := { s' with heap := h' }) (ch := fp) J.os ⟨fun b o e n hb hx => (hs.2 b (ne b o e)).trans (u.keep b o e n hb hx), fun b o e n hb hx => ?_, u.free, fun b o e hx => ?_, u.tups, u.frzs, u.tbls⟩ (fun b ob e => ?_) J.bare fun b hb => ?_
 · obtain ⟨sl, z⟩ := u.slot b o e n hb hx
   exact ⟨sl, (hs.2 b (ne b o e)).trans z⟩
 · obtain ⟨o', z⟩ := u.there b o e hx
   exact ⟨o', (hs.2 b (ne b o e)).trans z⟩
 · refine (J.hok b ob e).stay (fun c w' hc q => (hs.2 c ?_).trans q) (fun _ q => q) fun _ _ q => q
   rintro rfl
   rcases hc with z | z
   · rw [← z, hC] at e; cases e
   · rw [hC] at z; cases z
 · obtain ⟨_, f1, _, f3, f4, f5⟩ := hf b hb
   exact ⟨f3, f1, f4, f5⟩
end
theorem pe_comp {X : Cx} {elt tg iter : Expr} {ifs : List Expr} {scope : Scope} {pos : Pos} {wi : TI} {g : TG} {tf : TT} {te : TE} {N' : List Str} (h : Nat) (S : ScopeOk h N' X.N scope X.env.scope) (hc : X.calm = true) (hi : PI X tg iter wi)
   (hg : ∀ C s H ex, PG (compCx X scope N' C s H ex) tg g) (ho : OwnG h g) (ht : ∀ C s H ex, PF (compCx X scope N' C s H ex) ifs tf) (he : ∀ C s H ex, PE (compCx X scope N' C s H ex) elt te)
   (hs : ∀ x, foldedSetIterable iter X.env x = pure x := by intro _; rfl) :
   PE X (.ListComp elt [⟨tg, iter, ifs, 0⟩] scope pos) (tComp h wi g tf te) := by
 intro pins s σ H Q I hq
 rw [eval_ListComp]
 refine wpAny_comprehension_free (use := none) rfl hs (closure_ok (env := X.env) fun p hp hk => I.ok.has p.1 (S.free p hp hk).2) S.kind S.loc ?_
 refine thn (hi pins s σ H _ I hq) fun v s1 h1 => thn h1 fun itv s2 h2 => ?_
 obtain ⟨it, fp, tn, J, H2, rfl, I2, T, st2, f2, hq⟩ := h2
 refine wpAny_newObj_type ?_ (by show 0 ≤ sizeLine; exact Nat.zero_le _)
 have hD : H2 s2.heap.objs.size = none := I2.hok.fresh (Nat.le_refl _)
 have I3 : Inv X pins σ (upd H2 s2.heap.objs.size (.lst [])) { s2 with heap := s2.heap.push { cls := .type "list", data := .seq ([] : List Value).toArray }, toks := s2.toks } := I2.lnew (t' := s2.toks) .nil (Nat.zero_le _)
 generalize hs3 : ({ s2 with heap := s2.heap.push { cls := .type "list", data := .seq ([] : List Value).toArray }, toks := s2.toks } : Shared) = s3 at I3
 have hs3' : ({ s2 with heap := s2.heap.push { cls := .type "list", data := .seq ([] : List Value).toArray } } : Shared) = s3 := hs3
 obtain ⟨W, ⟨m0, w0⟩, turn⟩ := hq s2.heap.objs.size hD
 have olt : ∀ b ∈ fp, b < s2.heap.objs.size := fun b hb => by
   obtain ⟨o, e, _⟩ := T.obj _ _ st2 b hb
   exact Heap.lt_size e
 have hsz : s3.heap.objs.size = s2.heap.objs.size + 1 := by rw [← hs3]; exact Heap.size_push ..
 have k23 : ∀ b o, s2.heap.get? b = some o → s3.heap.get? b = some o := fun b o e => by rw [← hs3]; exact Heap.get?_push_of_some _ e
 have f3 : ∀ b ∈ fp, FpOk X pins (upd H2 s2.heap.objs.size (.lst [])) b := fun b hb => ⟨by rw [upd_ne (Nat.ne_of_lt (olt b hb))]; exact (f2 b hb).1, (f2 b hb).2⟩
 have lt3 : ∀ b ∈ fp, b < s3.heap.objs.size := fun b hb => by rw [hsz]; exact Nat.lt_succ_of_lt (olt b hb)
 refine wpAny_newFunctionEnv S.nocell (by intro y hy; simp at hy) (fun h4 hn4 hsb4 => ?_) S.kind
 have k34 : ∀ b o, s3.heap.get? b = some o → h4.get? b = some o := fun b o e => hsb4.extBut b o (Nat.ne_of_lt (Heap.lt_size e)) (Heap.get?_push_of_some _ e)
 have I4 := comp_start (h' := h4) (tk := s3.toks + ([] : List (Str × Value)).length) I3 S f3 lt3 hn4 k34
 have st4 : tn 0 h4 := T.keep _ _ _ st2 fun b hb o e => k34 b o (k23 b o e)
 generalize hX : compCx X scope N' s3.heap.objs.size s3 (upd H2 s2.heap.objs.size (.lst [])) fp = X' at I4
 have hA : X'.A = X.A := by rw [← hX]; rfl
 -- the iterator's objects, in the block
 have fpX : ∀ {H' : Hp} {pl : List (Addr × Obj)}, (∀ b ∈ fp, H' b = none) → pl = [] → ∀ b ∈ fp, FpOk X' pl H' b := fun {H' pl} hn0 hpl b hb => by
   subst hpl
   obtain ⟨q0, q1, q2, q3, q4, q5⟩ := f3 b hb
   subst hX
   refine ⟨hn0 b hb, Nat.ne_of_lt (lt3 b hb), fun z => ?_, .inl hb, fun x c e => q4 x c (comp_cl I3 S x c e), fun p hp => absurd (show p ∈ ([] : List (Addr × Obj)) from hp) (by simp)⟩
   rcases List.mem_cons.mp (I3.stkSub b z) with z | z
   · exact q1 z
   · exact q2 z
 have hcX : X'.calm = true := by rw [← hX]; exact hc
 have hR : ∀ s' : Shared, (∃ (m : Nat) (i : Nat) (ys : List V) (H' : Hp), Inv X' [] (List.replicate h none ++ σ) H' s' ∧ tn i s'.heap ∧ (∀ b ∈ fp, H' b = none) ∧ W i m ys H') → True := fun _ _ => trivial
 have loop : ∀ (sL : Shared), (Inv X' [] (List.replicate h none ++ σ) (upd H2 s2.heap.objs.size (.lst [])) sL) → tn 0 sL.heap →
     codeAny (model X.prog X.w) X.A (.compLoop (.ListComp elt [⟨tg, iter, ifs, 0⟩] scope pos) 0 (.ref it) (.ref s2.heap.objs.size) X'.env)
       (compPost (model X.prog X.w) X.A X.xe none (EP X pins σ Q) (.ref s2.heap.objs.size) s3.heap.objs.size) sL := by
   intro sL IL stL
   refine compLoop_go (fun n s' => ∃ i ys H', Inv X' [] (List.replicate h none ++ σ) H' s' ∧ tn i s'.heap ∧ (∀ b ∈ fp, H' b = none) ∧ W i n ys H') ?_ m0 ⟨0, [], _, IL, stL, fun b hb => (f3 b hb).1, w0⟩
   rintro n s5 ⟨i, ys, H5, I5, st5, fr5, w5⟩
   obtain ⟨hDy, hh⟩ := turn i n ys H5 w5
   have eP : X'.prog = X.prog := by rw [← hX]; rfl
   have eW : X'.w = X.w := by rw [← hX]; rfl
   have eK : X'.K = X.K := by rw [← hX]; rfl
   have eE : X'.xe = fun _ _ => False := by rw [← hX]; rfl
   rcases hh with ⟨stop, qn⟩ | ⟨go, step⟩
   · have := T.done X' eP eW eK hcX i [] s5 _ H5 (fun _ _ => False) I5 (fpX fr5 rfl) st5 stop
     rw [hA] at this
     refine thn this fun r s6 ⟨hr, I6⟩ => ?_
     subst hr
     obtain ⟨m6, hm6, _⟩ := id I6.loc
     refine ⟨m6, ?_, fun h7 hs7 => ?_⟩
     · rw [← hX] at hm6; exact hm6
     · rw [← hX] at I6
       exact ⟨.ref s2.heap.objs.size, H5, comp_end I3 S f3 I6 hs7, rfl, qn⟩
   · have := T.item X' eP eW eK hcX i [] s5 _ H5 (fun _ _ => False) I5 (fpX fr5 rfl) st5 go
     rw [hA] at this
     refine thn this fun r s6 ⟨u, hr, h6⟩ => ?_
     subst hr
     refine thn h6 fun _ s7 ⟨x, H7, I7, r7, y7, st7, fr7⟩ => ?_
     have I7' := I7.pinned (fpX fr7 rfl) (T.obj _ _ st7)
     have back : ∀ {σ' : St} {H' : Hp} {s' : Shared}, Inv X' ([] ++ pinsAt fp s7.heap) σ' H' s' → σ'.length = (List.replicate h none ++ σ : St).length → σ'.drop h = (List.replicate h none ++ σ : St).drop h →
         Inv X' [] (List.replicate h none ++ σ) H' s' ∧ tn (i + 1) s'.heap ∧ ∀ b ∈ fp, H' b = none := by
       intro σ' H' s' I' hl hd
       refine ⟨I'.unpinned.weak hl.symm fun j v e => ?_, T.keep _ _ _ st7 fun b hb o e => ?_, fun b hb => ?_⟩
       · by_cases hj : j < h
         · rw [List.getElem?_append_left (by simpa using hj), List.getElem?_replicate, if_pos hj] at e
           cases e
         · have e1 : (σ'.drop h)[j - h]? = σ'[j]? := by rw [List.getElem?_drop]; congr 1; omega
           have e2 : ((List.replicate h none ++ σ : St).drop h)[j - h]? = (List.replicate h none ++ σ : St)[j]? := by rw [List.getElem?_drop]; congr 1; omega
           rw [← e1, hd, e2]; exact e
       · exact (I'.pin (b, o) (List.mem_append_right _ (List.mem_append_right _ (mem_pinsAt hb e)))).1
       · obtain ⟨o, e, _⟩ := T.obj _ _ st7 b hb
         exact (I'.pin (b, o) (List.mem_append_right _ (List.mem_append_right _ (mem_pinsAt hb e)))).2.1
     have hg' := hg s3.heap.objs.size s3 (upd H2 s2.heap.objs.size (.lst [])) fp
     have ht' := ht s3.heap.objs.size s3 (upd H2 s2.heap.objs.size (.lst [])) fp
     have he' := he s3.heap.objs.size s3 (upd H2 s2.heap.objs.size (.lst [])) fp
     rw [hX] at hg' ht' he'
     have hl0 : h ≤ (List.replicate h none ++ σ : St).length := by simp
     have a1 := hg' _ s7 _ H7 x u _ I7' r7 (ho x _ H7 _ hl0 (step x H7 y7))
     rw [hA, eP, eW, eE] at a1
     refine thn a1 fun _ s8 ⟨σ8, H8, I8, q8, l8, d8⟩ => ?_
     have a2 := ht' _ s8 σ8 H8 _ I8 q8
     rw [hA, eP, eW, eE] at a2
     refine thn a2 fun c s9 ⟨H9, I9, q9⟩ => ?_
     cases c with
     | false =>
       obtain ⟨m', hm', w'⟩ := q9
       obtain ⟨b1, b2, b3⟩ := back I9 l8 d8
       exact ⟨m', hm', i + 1, ys, H9, b1, b2, b3, w'⟩
     | true =>
       have a3 := he' _ s9 σ8 H9 _ I9 q9
       rw [hA, eP, eW, eE] at a3
       refine thn a3 fun yv s10 ⟨y, H10, I10, r10, hD10, hz10, m', hm', w'⟩ => ?_
       have a4 := mt_append (X := X') _ s10 σ8 H10 (.ref s2.heap.objs.size) [y] (.ref s2.heap.objs.size) [yv] (fun _ Hz => Hz = upd H10 s2.heap.objs.size (.lst (ys ++ [y]))) I10 rfl (.cons r10 .nil) ⟨_, ys, y, rfl, rfl, hD10, hz10, rfl⟩
       rw [hA, eP, eW, eE] at a4
       refine thn a4 fun _ s11 ⟨_, H11, I11, _, e11⟩ => ?_
       subst e11
       obtain ⟨b1, b2, b3⟩ := back I11 l8 d8
       exact ⟨m', hm', i + 1, ys ++ [y], _, b1, b2, b3, w'⟩
 have fin := codeAny_compStart_list (prog := X.prog) (w := X.w) (A := X.A) (R := compPost (model X.prog X.w) X.A X.xe none (EP X pins σ Q) (.ref s2.heap.objs.size) s3.heap.objs.size) (elt := elt) (target := tg) (iter := iter) (ifs := ifs) (rest := []) (scope := scope) (pos := pos) (it := .ref it) (acc := .ref s2.heap.objs.size) (env := X'.env)
   (loop _ I4 st4) (T.self _ 0 _ _ _ st4 (loop _ I4 st4))
 have hE : X'.env = compEnvC scope (clOf scope.names X.env) s3.heap.objs.size X.env := by rw [← hX]; rfl
 rw [hE] at fin
 exact fin
theorem ps_setComp {X : Cx} {elt tg iter : Expr} {ifs : List Expr} {scope : Scope} {pos py spos : Pos} {wi : TI} {g : TG} {tf : TT} {te : TE} {N' : List Str} {n0 : Nat} {x0 : Str} (hN0 : X.N.Nodup) (hi0 : X.N[n0]? = some x0) (hx0 : X.env.scope.names.lookup x0 = some .local) (hsw : swapsWith (.ListComp elt [⟨tg, iter, ifs, 0⟩] scope pos) (some (.Name x0 py)) spos.line X.env = pure true) (h : Nat) (S : ScopeOk h N' X.N scope X.env.scope) (hc : X.calm = true) (hi : PI X tg iter wi)
   (hg : ∀ C s H ex, PG (compCx X scope N' C s H ex) tg g) (ho : OwnG h g) (ht : ∀ C s H ex, PF (compCx X scope N' C s H ex) ifs tf) (he : ∀ C s H ex, PE (compCx X scope N' C s H ex) elt te)
   (hs : ∀ x, foldedSetIterable iter X.env x = pure x := by intro _; rfl) :
   PS X (.Assign [.Name x0 py] (.ListComp elt [⟨tg, iter, ifs, 0⟩] scope pos) spos) (tAsg (tComp h wi g tf te) (gName n0)) := by
 intro pins s σ H DD I hq
 rw [exec_Assign_Name_used _ _ _ _ hsw]
 refine wpAny_bind (wpAny_standAt (wpAny_bind ?_))
 show wpAny _ X.A (do let _ ← comprehension (.ListComp elt [⟨tg, iter, ifs, 0⟩] scope pos) scope X.env _ (newList []) false (eval iter X.env) (some (assign (.Name x0 py) X.env))) _ _ s
 refine wpAny_bind (wpAny_mono (wpAny_comprehension_free (use := some (assign (.Name x0 py) X.env)) (Q := fun _ s' => SP X pins DD .next s') rfl hs (closure_ok (env := X.env) fun p hp hk => I.ok.has p.1 (S.free p hp hk).2) S.kind S.loc ?_) (fun _ s' hq => wpAny_pure (wpAny_pure hq)) fun _ _ e => e)
 refine thn (hi pins s σ H _ I hq) fun v s1 h1 => thn h1 fun itv s2 h2 => ?_
 obtain ⟨it, fp, tn, J, H2, rfl, I2, T, st2, f2, hq⟩ := h2
 refine wpAny_newObj_type ?_ (by show 0 ≤ sizeLine; exact Nat.zero_le _)
 have hD : H2 s2.heap.objs.size = none := I2.hok.fresh (Nat.le_refl _)
 have I3 : Inv X pins σ (upd H2 s2.heap.objs.size (.lst [])) { s2 with heap := s2.heap.push { cls := .type "list", data := .seq ([] : List Value).toArray }, toks := s2.toks } := I2.lnew (t' := s2.toks) .nil (Nat.zero_le _)
 generalize hs3 : ({ s2 with heap := s2.heap.push { cls := .type "list", data := .seq ([] : List Value).toArray }, toks := s2.toks } : Shared) = s3 at I3
 have hs3' : ({ s2 with heap := s2.heap.push { cls := .type "list", data := .seq ([] : List Value).toArray } } : Shared) = s3 := hs3
 obtain ⟨W, ⟨m0, w0⟩, turn⟩ := hq s2.heap.objs.size hD
 have olt : ∀ b ∈ fp, b < s2.heap.objs.size := fun b hb => by
   obtain ⟨o, e, _⟩ := T.obj _ _ st2 b hb
   exact Heap.lt_size e
 have hsz : s3.heap.objs.size = s2.heap.objs.size + 1 := by rw [← hs3]; exact Heap.size_push ..
 have k23 : ∀ b o, s2.heap.get? b = some o → s3.heap.get? b = some o := fun b o e => by rw [← hs3]; exact Heap.get?_push_of_some _ e
 have f3 : ∀ b ∈ fp, FpOk X pins (upd H2 s2.heap.objs.size (.lst [])) b := fun b hb => ⟨by rw [upd_ne (Nat.ne_of_lt (olt b hb))]; exact (f2 b hb).1, (f2 b hb).2⟩
 have lt3 : ∀ b ∈ fp, b < s3.heap.objs.size := fun b hb => by rw [hsz]; exact Nat.lt_succ_of_lt (olt b hb)
 refine wpAny_newFunctionEnv S.nocell (by intro y hy; simp at hy) (fun h4 hn4 hsb4 => ?_) S.kind
 have k34 : ∀ b o, s3.heap.get? b = some o → h4.get? b = some o := fun b o e => hsb4.extBut b o (Nat.ne_of_lt (Heap.lt_size e)) (Heap.get?_push_of_some _ e)
 have I4 := comp_start (h' := h4) (tk := s3.toks + ([] : List (Str × Value)).length) I3 S f3 lt3 hn4 k34
 have st4 : tn 0 h4 := T.keep _ _ _ st2 fun b hb o e => k34 b o (k23 b o e)
 generalize hX : compCx X scope N' s3.heap.objs.size s3 (upd H2 s2.heap.objs.size (.lst [])) fp = X' at I4
 have hA : X'.A = X.A := by rw [← hX]; rfl
 -- the iterator's objects, in the block
 have fpX : ∀ {H' : Hp} {pl : List (Addr × Obj)}, (∀ b ∈ fp, H' b = none) → pl = [] → ∀ b ∈ fp, FpOk X' pl H' b := fun {H' pl} hn0 hpl b hb => by
   subst hpl
   obtain ⟨q0, q1, q2, q3, q4, q5⟩ := f3 b hb
   subst hX
   refine ⟨hn0 b hb, Nat.ne_of_lt (lt3 b hb), fun z => ?_, .inl hb, fun x c e => q4 x c (comp_cl I3 S x c e), fun p hp => absurd (show p ∈ ([] : List (Addr × Obj)) from hp) (by simp)⟩
   rcases List.mem_cons.mp (I3.stkSub b z) with z | z
   · exact q1 z
   · exact q2 z
 have hcX : X'.calm = true := by rw [← hX]; exact hc
 have hR : ∀ s' : Shared, (∃ (m : Nat) (i : Nat) (ys : List V) (H' : Hp), Inv X' [] (List.replicate h none ++ σ) H' s' ∧ tn i s'.heap ∧ (∀ b ∈ fp, H' b = none) ∧ W i m ys H') → True := fun _ _ => trivial
 have loop : ∀ (sL : Shared), (Inv X' [] (List.replicate h none ++ σ) (upd H2 s2.heap.objs.size (.lst [])) sL) → tn 0 sL.heap →
     codeAny (model X.prog X.w) X.A (.compLoop (.ListComp elt [⟨tg, iter, ifs, 0⟩] scope pos) 0 (.ref it) (.ref s2.heap.objs.size) X'.env)
       (compPost (model X.prog X.w) X.A X.xe (some (assign (.Name x0 py) X.env)) (fun _ s' => SP X pins DD .next s') (.ref s2.heap.objs.size) s3.heap.objs.size) sL := by
   intro sL IL stL
   refine compLoop_go (fun n s' => ∃ i ys H', Inv X' [] (List.replicate h none ++ σ) H' s' ∧ tn i s'.heap ∧ (∀ b ∈ fp, H' b = none) ∧ W i n ys H') ?_ m0 ⟨0, [], _, IL, stL, fun b hb => (f3 b hb).1, w0⟩
   rintro n s5 ⟨i, ys, H5, I5, st5, fr5, w5⟩
   obtain ⟨hDy, hh⟩ := turn i n ys H5 w5
   have eP : X'.prog = X.prog := by rw [← hX]; rfl
   have eW : X'.w = X.w := by rw [← hX]; rfl
   have eK : X'.K = X.K := by rw [← hX]; rfl
   have eE : X'.xe = fun _ _ => False := by rw [← hX]; rfl
   rcases hh with ⟨stop, qn⟩ | ⟨go, step⟩
   · have := T.done X' eP eW eK hcX i [] s5 _ H5 (fun _ _ => False) I5 (fpX fr5 rfl) st5 stop
     rw [hA] at this
     refine thn this fun r s6 ⟨hr, I6⟩ => ?_
     subst hr
     obtain ⟨m6, hm6, _⟩ := id I6.loc
     have hC6 : H5 s3.heap.objs.size = none := by rw [← hX] at I6; exact I6.free
     have hm6 : s6.heap.Ns s3.heap.objs.size m6 := by rw [← hX] at hm6; exact hm6
     have J6 : Inv X pins σ H5 s6 := by rw [← hX] at I6; exact comp_end I3 S f3 I6 (Heap.SameBut.refl ..)
     have neL : s3.heap.objs.size ≠ X.env.locals := Nat.ne_of_gt I3.lt
     have neC : ∀ x c, X.env.cells.lookup x = some c → c ≠ s3.heap.objs.size := fun x c e => by
       obtain ⟨v, z⟩ := I3.cell x c e
       exact Nat.ne_of_lt z.lt
     show wpAny (model X.prog X.w) X.A (assign (.Name x0 py) X.env (.ref s2.heap.objs.size)) _ _ s6
     refine wpAny_assign_Name (store_ok2 (v := .ref s2.heap.objs.size) J6 hN0 hi0 (.inl hx0) rfl (fun s7 I7 ⟨a, hsb, ha⟩ => ?_) (.inr hx0))
     have hac : s3.heap.objs.size ≠ a := by
       rcases ha with rfl | ha
       · exact neL
       · exact Ne.symm (neC _ _ ha)
     refine ⟨m6, hm6.sameBut hsb hac, fun h8 hs8 => ⟨_, H5, I7.turned (t' := s7.toks) (it := s3.heap.objs.size) (fun b o hb e => (hs8.2 b hb).trans e) hC6 neL (.inr I3.sz) neC (fun p hp => ?_), qn⟩⟩
     exact Nat.ne_of_lt (Heap.lt_size (I3.pin p hp).1)
   · have := T.item X' eP eW eK hcX i [] s5 _ H5 (fun _ _ => False) I5 (fpX fr5 rfl) st5 go
     rw [hA] at this
     refine thn this fun r s6 ⟨u, hr, h6⟩ => ?_
     subst hr
     refine thn h6 fun _ s7 ⟨x, H7, I7, r7, y7, st7, fr7⟩ => ?_
     have I7' := I7.pinned (fpX fr7 rfl) (T.obj _ _ st7)
     have back : ∀ {σ' : St} {H' : Hp} {s' : Shared}, Inv X' ([] ++ pinsAt fp s7.heap) σ' H' s' → σ'.length = (List.replicate h none ++ σ : St).length → σ'.drop h = (List.replicate h none ++ σ : St).drop h →
         Inv X' [] (List.replicate h none ++ σ) H' s' ∧ tn (i + 1) s'.heap ∧ ∀ b ∈ fp, H' b = none := by
       intro σ' H' s' I' hl hd
       refine ⟨I'.unpinned.weak hl.symm fun j v e => ?_, T.keep _ _ _ st7 fun b hb o e => ?_, fun b hb => ?_⟩
       · by_cases hj : j < h
         · rw [List.getElem?_append_left (by simpa using hj), List.getElem?_replicate, if_pos hj] at e
           cases e
         · have e1 : (σ'.drop h)[j - h]? = σ'[j]? := by rw [List.getElem?_drop]; congr 1; omega
           have e2 : ((List.replicate h none ++ σ : St).drop h)[j - h]? = (List.replicate h none ++ σ : St)[j]? := by rw [List.getElem?_drop]; congr 1; omega
           rw [← e1, hd, e2]; exact e
       · exact (I'.pin (b, o) (List.mem_append_right _ (List.mem_append_right _ (mem_pinsAt hb e)))).1
       · obtain ⟨o, e, _⟩ := T.obj _ _ st7 b hb
         exact (I'.pin (b, o) (List.mem_append_right _ (List.mem_append_right _ (mem_pinsAt hb e)))).2.1
     have hg' := hg s3.heap.objs.size s3 (upd H2 s2.heap.objs.size (.lst [])) fp
     have ht' := ht s3.heap.objs.size s3 (upd H2 s2.heap.objs.size (.lst [])) fp
     have he' := he s3.heap.objs.size s3 (upd H2 s2.heap.objs.size (.lst [])) fp
     rw [hX] at hg' ht' he'
     have hl0 : h ≤ (List.replicate h none ++ σ : St).length := by simp
     have a1 := hg' _ s7 _ H7 x u _ I7' r7 (ho x _ H7 _ hl0 (step x H7 y7))
     rw [hA, eP, eW, eE] at a1
     refine thn a1 fun _ s8 ⟨σ8, H8, I8, q8, l8, d8⟩ => ?_
     have a2 := ht' _ s8 σ8 H8 _ I8 q8
     rw [hA, eP, eW, eE] at a2
     refine thn a2 fun c s9 ⟨H9, I9, q9⟩ => ?_
     cases c with
     | false =>
       obtain ⟨m', hm', w'⟩ := q9
       obtain ⟨b1, b2, b3⟩ := back I9 l8 d8
       exact ⟨m', hm', i + 1, ys, H9, b1, b2, b3, w'⟩
     | true =>
       have a3 := he' _ s9 σ8 H9 _ I9 q9
       rw [hA, eP, eW, eE] at a3
       refine thn a3 fun yv s10 ⟨y, H10, I10, r10, hD10, hz10, m', hm', w'⟩ => ?_
       have a4 := mt_append (X := X') _ s10 σ8 H10 (.ref s2.heap.objs.size) [y] (.ref s2.heap.objs.size) [yv] (fun _ Hz => Hz = upd H10 s2.heap.objs.size (.lst (ys ++ [y]))) I10 rfl (.cons r10 .nil) ⟨_, ys, y, rfl, rfl, hD10, hz10, rfl⟩
       rw [hA, eP, eW, eE] at a4
       refine thn a4 fun _ s11 ⟨_, H11, I11, _, e11⟩ => ?_
       subst e11
       obtain ⟨b1, b2, b3⟩ := back I11 l8 d8
       exact ⟨m', hm', i + 1, ys ++ [y], _, b1, b2, b3, w'⟩
 have fin := codeAny_compStart_list (prog := X.prog) (w := X.w) (A := X.A) (R := compPost (model X.prog X.w) X.A X.xe (some (assign (.Name x0 py) X.env)) (fun _ s' => SP X pins DD .next s') (.ref s2.heap.objs.size) s3.heap.objs.size) (elt := elt) (target := tg) (iter := iter) (ifs := ifs) (rest := []) (scope := scope) (pos := pos) (it := .ref it) (acc := .ref s2.heap.objs.size) (env := X'.env)
   (loop _ I4 st4) (T.self _ 0 _ _ _ st4 (loop _ I4 st4))
 have hE : X'.env = compEnvC scope (clOf scope.names X.env) s3.heap.objs.size X.env := by rw [← hX]; rfl
 rw [hE] at fin
 exact fin
end L3
namespace L3
open PySem PySem.Spec
open PyProof.Rows hiding St
open L2
mutual
inductive Is (K : PySem.W.Frag) (F : Addr → Prop) (H : Hp) : V → PyData → Prop
 | none : Is K F H .non .none
 | bool (b) : Is K F H (.bl b) (.bool b)
 | int (i) : Is K F H (.int i) (.int i)
 | str (x) : Is K F H (.str x) (.str x)
 | list {a xs ds} : F a → H a = some (.lst xs) → IsAll K F H xs ds → Is K F H (.ref a) (.list ds)
 | tuple {a xs ds} : SqT K H a xs → IsAll K F H xs ds → Is K F H (.ref a) (.tuple ds)
inductive IsAll (K : PySem.W.Frag) (F : Addr → Prop) (H : Hp) : List V → List PyData → Prop
 | nil : IsAll K F H [] []
 | cons {v vs d ds} : Is K F H v d → IsAll K F H vs ds → IsAll K F H (v :: vs) (d :: ds)
end
section
variable {K : PySem.W.Frag} {F F' : Addr → Prop} {H H' : Hp}
mutual
theorem Is.to (hL : ∀ a xs, F a → H a = some (.lst xs) → F' a ∧ H' a = some (.lst xs)) (hT : ∀ a xs, SqT K H a xs → SqT K H' a xs) : ∀ {v d}, Is K F H v d → Is K F' H' v d
 | _, _, .none => .none
 | _, _, .bool b => .bool b
 | _, _, .int i => .int i
 | _, _, .str x => .str x
 | _, _, .list f q r => .list (hL _ _ f q).1 (hL _ _ f q).2 (IsAll.to hL hT r)
 | _, _, .tuple q r => .tuple (hT _ _ q) (IsAll.to hL hT r)
theorem IsAll.to (hL : ∀ a xs, F a → H a = some (.lst xs) → F' a ∧ H' a = some (.lst xs)) (hT : ∀ a xs, SqT K H a xs → SqT K H' a xs) : ∀ {vs ds}, IsAll K F H vs ds → IsAll K F' H' vs ds
 | _, _, .nil => .nil
 | _, _, .cons r t => .cons (Is.to hL hT r) (IsAll.to hL hT t)
end
theorem IsAll.length : ∀ {vs ds}, IsAll K F H vs ds → vs.length = ds.length
 | _, _, .nil => rfl
 | _, _, .cons _ t => by rw [List.length_cons, List.length_cons, IsAll.length t]
theorem IsAll.get : ∀ {vs ds} {i : Nat} {d}, IsAll K F H vs ds → ds[i]? = some d → ∃ v, vs[i]? = some v ∧ Is K F H v d
 | _, _, _, _, .nil, e => by simp at e
 | _, _, 0, _, .cons r _, e => by simp at e; subst e; exact ⟨_, rfl, r⟩
 | _, _, i + 1, d, .cons _ t, e => by
   obtain ⟨v, h1, h2⟩ := IsAll.get (i := i) (d := d) t (by simpa using e)
   exact ⟨v, by simpa using h1, h2⟩
theorem IsAll.append : ∀ {vs ds ws es}, IsAll K F H vs ds → IsAll K F H ws es → IsAll K F H (vs ++ ws) (ds ++ es)
 | _, _, _, _, .nil, s => s
 | _, _, _, _, .cons r t, s => .cons r (IsAll.append t s)
theorem IsAll.snoc {vs ds v d} (h : IsAll K F H vs ds) (r : Is K F H v d) : IsAll K F H (vs ++ [v]) (ds ++ [d]) := h.append (.cons r .nil)
theorem IsAll.take : ∀ {vs ds} (n : Nat), IsAll K F H vs ds → IsAll K F H (vs.take n) (ds.take n)
 | _, _, 0, _ => .nil
 | _, _, _ + 1, .nil => .nil
 | _, _, n + 1, .cons r t => .cons r (IsAll.take n t)
theorem IsAll.drop : ∀ {vs ds} (n : Nat), IsAll K F H vs ds → IsAll K F H (vs.drop n) (ds.drop n)
 | _, _, 0, r => r
 | _, _, _ + 1, .nil => .nil
 | _, _, n + 1, .cons _ t => IsAll.drop n t
end
def SameB (M : Addr → Prop) (H H' : Hp) : Prop := ∀ a o, H a = some o → ¬ M a → H' a = some o
theorem SameB.refl (M : Addr → Prop) (H : Hp) : SameB M H H := fun _ _ h _ => h
theorem SameB.trans {M : Addr → Prop} {H H1 H2 : Hp} (a : SameB M H H1) (b : SameB M H1 H2) : SameB M H H2 := fun c o h n => b c o (a c o h n) n
theorem SameB.of {M : Addr → Prop} {H H' : Hp} (s : Same H H') : SameB M H H' := fun a o h _ => s a o h
theorem SameB.free {M : Addr → Prop} {H H' : Hp} (e : SameB M H H') {l : Addr} (hm : ¬ M l) (h : H' l = Option.none) : H l = Option.none := by
 cases q : H l with
 | none => rfl
 | some o => rw [e l o q hm] at h; cases h
def TupStay (H H' : Hp) : Prop := ∀ a u, (∃ xs, u = HO.tup xs ∨ ∃ o, u = HO.frz o (.tup xs)) → H a = some u → H' a = some u
theorem SqT.stay {K : PySem.W.Frag} {H H' : Hp} {a : Addr} {xs : List V} (e : TupStay H H') (h : SqT K H a xs) : SqT K H' a xs := by
 rcases h with (h | ⟨o, h⟩) | h
 · exact .inl (.inl (e _ _ ⟨xs, .inl rfl⟩ h))
 · exact .inl (.inr ⟨o, e _ _ ⟨xs, .inr ⟨o, rfl⟩⟩ h⟩)
 · exact .inr h
structure Ob where
 M : Addr → Prop
 P : Hp → Prop
 v : V
structure Ob.Ok (O : Ob) : Prop where
 loc : ∀ H H', (∀ a, O.M a → H' a = H a) → O.P H → O.P H'
 mutb : ∀ H a o, O.P H → H a = some o → O.M a → (∀ xs, o ≠ .tup xs) ∧ ∀ q u, o ≠ .frz q u
 here : ∀ H a, O.P H → O.M a → ∃ o, H a = some o
theorem Ob.Ok.grow {O : Ob} (ok : O.Ok) (H H' : Hp) (s : Same H H') (p : O.P H) : O.P H' := ok.loc H H' (fun a m => by
 obtain ⟨o, e⟩ := ok.here H a p m
 rw [e, s a o e]) p
def Ob.plus (O : Ob) (D : Addr) (u : HO) : Ob := ⟨fun a => O.M a ∨ a = D, fun H => O.P H ∧ H D = some u, O.v⟩
theorem Ob.Ok.plus {O : Ob} (ok : O.Ok) (D : Addr) (xs : List V) : (O.plus D (.lst xs)).Ok :=
 ⟨fun H H' e p => ⟨ok.loc H H' (fun a m => e a (.inl m)) p.1, (e D (.inr rfl)).trans p.2⟩,
  fun H a o p e m => by
   rcases m with m | rfl
   · exact ok.mutb H a o p.1 e m
   · rw [p.2] at e; cases e; exact ⟨fun _ h => (by cases h), fun _ _ h => (by cases h)⟩,
  fun H a p m => by
   rcases m with m | rfl
   · exact ok.here H a p.1 m
   · exact ⟨_, p.2⟩⟩
structure Stp (O : Ob) (H H' : Hp) : Prop where
 s : SameB O.M H H'
 p : O.P H → O.P H'
 t : TupStay H H'
theorem Stp.refl (O : Ob) (H : Hp) : Stp O H H := ⟨.refl _ _, fun h => h, fun _ _ _ h => h⟩
theorem Stp.trans {O : Ob} {H H1 H2 : Hp} (a : Stp O H H1) (b : Stp O H1 H2) : Stp O H H2 := ⟨a.s.trans b.s, fun h => b.p (a.p h), fun c u hu h => b.t c u hu (a.t c u hu h)⟩
theorem Stp.same {O : Ob} (ok : O.Ok) {H H' : Hp} (s : Same H H') : Stp O H H' := ⟨.of s, ok.grow H H' s, fun a u _ h => s a u h⟩
theorem same_new {H : Hp} {p : Addr} (h : H p = none) (o : HO) : Same H (upd H p o) := fun b u q => by rw [upd_ne (ne_of_none q h)]; exact q
theorem Stp.new {O : Ob} (ok : O.Ok) {H : Hp} {p : Addr} (h : H p = none) (o : HO) : Stp O H (upd H p o) := .same ok (same_new h o)
section
variable {K : PySem.W.Frag} {O : Ob} {F F' : Addr → Prop} {H H' : Hp} {v : V} {d : PyData}
theorem Is.stp (s : Stp O H H') (hF : ∀ a, F a → F' a) (hM : ∀ a, F a → ¬ O.M a) (h : Is K F H v d) : Is K F' H' v d :=
 h.to (fun a xs f q => ⟨hF a f, s.s a _ q (hM a f)⟩) fun a xs q => SqT.stay (h := q) s.t
theorem IsAll.stp {vs : List V} {ds : List PyData} (s : Stp O H H') (hF : ∀ a, F a → F' a) (hM : ∀ a, F a → ¬ O.M a) (h : IsAll K F H vs ds) : IsAll K F' H' vs ds :=
 h.to (fun a xs f q => ⟨hF a f, s.s a _ q (hM a f)⟩) fun a xs q => SqT.stay (h := q) s.t
theorem Is.weak (h : Is K F H v d) (hF : ∀ a, F a → F' a) : Is K F' H v d := h.to (fun a xs f q => ⟨hF a f, q⟩) fun a xs q => q
theorem IsAll.weak {vs : List V} {ds : List PyData} (h : IsAll K F H vs ds) (hF : ∀ a, F a → F' a) : IsAll K F' H vs ds := h.to (fun a xs f q => ⟨hF a f, q⟩) fun a xs q => q
end
mutual
def flat : PyData → Bool
 | .none => true
 | .bool _ => true
 | .int _ => true
 | .str _ => true
 | .tuple ds => flats ds
 | _ => false
def flats : List PyData → Bool
 | [] => true
 | d :: ds => flat d && flats ds
end
mutual
theorem Is.flat {K : PySem.W.Frag} {F F' : Addr → Prop} {H H' : Hp} (t : TupStay H H') : ∀ {v d}, Is K F H v d → L3.flat d = true → Is K F' H' v d
 | _, _, .none, _ => .none
 | _, _, .bool b, _ => .bool b
 | _, _, .int i, _ => .int i
 | _, _, .str x, _ => .str x
 | _, _, .list _ _ _, h => by simp [L3.flat] at h
 | _, _, .tuple q r, h => .tuple (SqT.stay t q) (IsAll.flats t r (by simpa [L3.flat] using h))
theorem IsAll.flats {K : PySem.W.Frag} {F F' : Addr → Prop} {H H' : Hp} (t : TupStay H H') : ∀ {vs ds}, IsAll K F H vs ds → L3.flats ds = true → IsAll K F' H' vs ds
 | _, _, .nil, _ => .nil
 | _, _, .cons r s, h => by
   rw [L3.flats, Bool.and_eq_true] at h
   exact .cons (Is.flat t r h.1) (IsAll.flats t s h.2)
end
theorem TupStay.refl (H : Hp) : TupStay H H := fun _ _ _ h => h
section
variable {X : Cx} {pins : List (Addr × Obj)} {σ : St} {H : Hp} {s : Shared} {F : Addr → Prop}
mutual
theorem Is.reads (I : Inv X pins σ H s) : ∀ {v d} {u : Value}, Is X.K F H v d → RelV v u → ∃ as, Reads s.heap u d as
 | _, _, _, .none, r => by cases r; exact ⟨_, .none⟩
 | _, _, _, .bool b, r => by cases r; exact ⟨_, .bool b⟩
 | _, _, _, .int i, r => by obtain ⟨t, rfl⟩ := r; exact ⟨_, .int i t⟩
 | _, _, _, .str x, r => by obtain ⟨t, rfl⟩ := r; exact ⟨_, .str x t⟩
 | _, _, _, .list f q rs, r => by
   cases r
   obtain ⟨its, rv, ⟨o, n, e, c, _, dt⟩, _⟩ := I.list (.of q)
   obtain ⟨as, ra⟩ := IsAll.reads I rs rv
   exact ⟨_, .list e c dt (by simpa using ra)⟩
 | _, _, _, .tuple q rs, r => by
   cases r
   obtain ⟨its, rv, ⟨o, e, c, n, dt⟩, _⟩ := I.tuple q
   obtain ⟨as, ra⟩ := IsAll.reads I rs rv
   exact ⟨_, .tuple e c dt (by simpa using ra)⟩
theorem IsAll.reads (I : Inv X pins σ H s) : ∀ {vs ds} {us : List Value}, IsAll X.K F H vs ds → Vals vs us → ∃ as, ReadsAll s.heap us ds as
 | _, _, _, .nil, r => by cases r; exact ⟨_, .nil⟩
 | _, _, _, .cons h t, r => by
   cases r with
   | cons r1 r2 =>
     obtain ⟨as, ra⟩ := Is.reads I h r1
     obtain ⟨bs, rb⟩ := IsAll.reads I t r2
     exact ⟨_, .cons ra rb⟩
end
end
def IsS (K : PySem.W.Frag) (F : Addr → Prop) (H : Hp) (v : V) (n : Nat) : Prop := ∃ a xs, v = .ref a ∧ xs.length = n ∧ ((F a ∧ Rd H a (.lst xs)) ∨ ∀ H', SqL K H' a xs)
theorem IsS.to {K : PySem.W.Frag} {F F' : Addr → Prop} {H H' : Hp} {v : V} {n : Nat} (hL : ∀ a u, F a → H a = some u → F' a ∧ H' a = some u) (h : IsS K F H v n) : IsS K F' H' v n := by
 obtain ⟨a, xs, e, l, ⟨f, q | ⟨o, q⟩⟩ | q⟩ := h
 · exact ⟨a, xs, e, l, .inl ⟨(hL a _ f q).1, .inl (hL a _ f q).2⟩⟩
 · exact ⟨a, xs, e, l, .inl ⟨(hL a _ f q).1, .inr ⟨o, (hL a _ f q).2⟩⟩⟩
 · exact ⟨a, xs, e, l, .inr q⟩
def DkAt (H : Hp) (v : V) (a : Addr) (ks : List Str) : Prop := v = .ref a ∧ ∃ kvs, H a = some (.dK kvs) ∧ kvs.map (·.1) = ks.map Sum.inr
theorem DkAt.to {H H' : Hp} {v : V} {a : Addr} {ks : List Str} (h : DkAt H v a ks) (e : ∀ u, H a = some u → H' a = some u) : DkAt H' v a ks := let ⟨h1, kvs, h2, h3⟩ := h; ⟨h1, kvs, e _ h2, h3⟩
inductive R where
 | o (d : PyData)
 | n (ds : List PyData)
def R.d : R → PyData
 | .o d => d
 | .n ds => .list ds
inductive DV where
 | im (d : PyData)
 | own (ds : List PyData)
 | ob
 | scr (n : Nat)
 | dct (ks : List Str)
abbrev DSt := List (Option DV)
abbrev DE := DSt → (R → Prop) → Prop
abbrev DT := DSt → (Bool → Prop) → Prop
abbrev DA := DSt → (List PyData → Prop) → Prop
def unM (O : Ob) : Addr → Prop := fun a => ¬ O.M a
def SeenV (K : PySem.W.Frag) (O : Ob) (H : Hp) (v : V) : DV → Prop
 | .im d => Is K (unM O) H v d
 | .own ds => Is K (unM O) H v (.list ds)
 | .ob => v = O.v
 | .scr n => IsS K (unM O) H v n
 | .dct ks => ∃ a, ¬ O.M a ∧ DkAt H v a ks
structure Seen (K : PySem.W.Frag) (O : Ob) (H : Hp) (σ : St) (ρ : DSt) : Prop where
 ok : O.Ok
 p : O.P H
 at_ : ∀ (i : Nat) r, ρ[i]? = some (some r) → ∃ v, σ[i]? = some (some v) ∧ SeenV K O H v r
 len : ρ.length = σ.length
theorem SeenV.stp {K : PySem.W.Frag} {O : Ob} {H H' : Hp} {v : V} {r : DV} (s : Stp O H H') (h : SeenV K O H v r) : SeenV K O H' v r := by
 cases r with
 | im d => exact Is.stp s (fun _ f => f) (fun _ f => f) h
 | own ds => exact Is.stp s (fun _ f => f) (fun _ f => f) h
 | ob => exact h
 | scr n => exact IsS.to (fun a u f q => ⟨f, s.s a u q f⟩) h
 | dct ks => obtain ⟨a, n, h⟩ := h; exact ⟨a, n, h.to fun u q => s.s a u q n⟩
theorem Seen.stp {K : PySem.W.Frag} {O : Ob} {H H' : Hp} {σ : St} {ρ : DSt} (S : Seen K O H σ ρ) (s : Stp O H H') : Seen K O H' σ ρ :=
 ⟨S.ok, s.p S.p, fun i r e => let ⟨v, h1, h2⟩ := S.at_ i r e; ⟨v, h1, h2.stp s⟩, S.len⟩
def Out (K : PySem.W.Frag) (O : Ob) (H H' : Hp) (v : V) : R → Prop
 | .o d => Is K (unM O) H' v d
 | .n ds => ∃ a xs, v = .ref a ∧ H a = none ∧ H' a = some (.lst xs) ∧ IsAll K (unM O) H' xs ds
theorem Out.is {K : PySem.W.Frag} {O : Ob} {H H' : Hp} {v : V} {r : R} (ok : O.Ok) (p : O.P H) (h : Out K O H H' v r) : Is K (unM O) H' v r.d := by
 cases r with
 | o d => exact h
 | n ds =>
   obtain ⟨a, xs, rfl, hn, e, q⟩ := h
   exact .list (fun m => by obtain ⟨o, z⟩ := ok.here H a p m; rw [hn] at z; cases z) e q
def ED (K : PySem.W.Frag) (O : Ob) (t : TE) (f : DE) : Prop :=
 ∀ (σ : St) (H : Hp) (ρ : DSt) (Q : VK) (Qd : R → Prop), Seen K O H σ ρ → f ρ Qd → (∀ v H' r, Stp O H H' → Out K O H H' v r → Qd r → Q v H') → t σ H Q
def TD (K : PySem.W.Frag) (O : Ob) (t : TT) (f : DT) : Prop :=
 ∀ (σ : St) (H : Hp) (ρ : DSt) (Q : Bool → Hp → Prop) (Qd : Bool → Prop), Seen K O H σ ρ → f ρ Qd → (∀ b H', Stp O H H' → Qd b → Q b H') → t σ H Q
def AD (K : PySem.W.Frag) (O : Ob) (t : TA) (f : DA) : Prop :=
 ∀ (σ : St) (H : Hp) (ρ : DSt) (Q : List V → Hp → Prop) (Qd : List PyData → Prop), Seen K O H σ ρ → f ρ Qd → (∀ vs H' ds, Stp O H H' → IsAll K (unM O) H' vs ds → Qd ds → Q vs H') → t σ H Q
section
variable {K : PySem.W.Frag} {O : Ob}
def cD (d : PyData) : DE := fun _ Q => Q (.o d)
theorem ed_int {i : Int} : ED K O (tC (.int i)) (cD (.int i)) := fun σ H ρ Q Qd S h k => k _ H (.o (.int i)) (.refl _ _) (Is.int i) h
theorem ed_str {x : Str} : ED K O (tC (.str x)) (cD (.str x)) := fun σ H ρ Q Qd S h k => k _ H (.o (.str x)) (.refl _ _) (Is.str x) h
theorem ed_bl {b : Bool} : ED K O (tC (.bl b)) (cD (.bool b)) := fun σ H ρ Q Qd S h k => k _ H (.o (.bool b)) (.refl _ _) (Is.bool b) h
theorem ed_non : ED K O (tC .non) (cD .none) := fun σ H ρ Q Qd S h k => k _ H (.o .none) (.refl _ _) Is.none h
def seeR : DV → Option PyData
 | .im d => some d
 | .own ds => some (.list ds)
 | .ob => none
 | .scr _ => none
 | .dct _ => none
def vD (i : Nat) : DE := fun ρ Q => ∃ r d, ρ[i]? = some (some r) ∧ seeR r = some d ∧ Q (.o d)
theorem ed_var {i : Nat} : ED K O (tVar i) (vD i) := fun σ H ρ Q Qd S h k => by
 obtain ⟨r, d, e, e2, h⟩ := h
 obtain ⟨v, hv, sv⟩ := S.at_ i r e
 refine ⟨v, hv, k _ H _ (.refl _ _) ?_ h⟩
 cases r with
 | im d' => cases e2; exact sv
 | own ds => cases e2; exact sv
 | ob => cases e2
 | scr n => cases e2
 | dct ks => cases e2
def OpD (K : PySem.W.Frag) (O : Ob) (r : R2) (f : PyData → PyData → (R → Prop) → Prop) : Prop :=
 ∀ (H : Hp) (x y : V) (d e : PyData) (Q : VK) (Qd : R → Prop), O.Ok → O.P H → Is K (unM O) H x d → Is K (unM O) H y e → f d e Qd → (∀ v H' r, Stp O H H' → Out K O H H' v r → Qd r → Q v H') → r x y H Q
theorem Out.stp {H H1 H2 : Hp} {v : V} {r : R} (ok : O.Ok) (p : O.P H) (s1 : Stp O H H1) (s2 : Stp O H1 H2) (h : Out K O H H1 v r) : Out K O H H2 v r := by
 cases r with
 | o d => exact Is.stp s2 (fun _ f => f) (fun _ f => f) h
 | n ds =>
   obtain ⟨a, xs, rfl, hn, e, q⟩ := h
   have m : ¬ O.M a := fun m => by obtain ⟨o, z⟩ := ok.here H a p m; rw [hn] at z; cases z
   exact ⟨a, xs, rfl, hn, s2.s a _ e m, q.stp s2 (fun _ f => f) (fun _ f => f)⟩
theorem Out.ahead {H H1 H2 : Hp} {v : V} {r : R} (ok : O.Ok) (p : O.P H) (s1 : Stp O H H1) (h : Out K O H1 H2 v r) : Out K O H H2 v r := by
 cases r with
 | o d => exact h
 | n ds =>
   obtain ⟨a, xs, rfl, hn, e, q⟩ := h
   have m : ¬ O.M a := fun m => by obtain ⟨o, z⟩ := ok.here H1 a (s1.p p) m; rw [hn] at z; cases z
   exact ⟨a, xs, rfl, s1.s.free m hn, e, q⟩
def opDE (f : PyData → PyData → (R → Prop) → Prop) (fa fb : DE) : DE := fun ρ Q => fa ρ fun a => fb ρ fun b => f a.d b.d Q
theorem ed_op {r : R2} {ta tb : TE} {f : PyData → PyData → (R → Prop) → Prop} {fa fb : DE} (hr : OpD K O r f) (ha : ED K O ta fa) (hb : ED K O tb fb) : ED K O (tOp r ta tb) (opDE f fa fb) := fun σ H ρ Q Qd S h k => by
 refine ha σ H ρ _ _ S h fun v H1 a s1 o1 h1 => ?_
 refine hb σ H1 ρ _ _ (S.stp s1) h1 fun w H2 b s2 o2 h2 => ?_
 have p1 := s1.p S.p
 refine hr H2 v w a.d b.d _ _ S.ok (s2.p p1) (Is.stp s2 (fun _ f => f) (fun _ f => f) (o1.is S.ok S.p)) (o2.is S.ok p1) h2 fun z H3 c s3 o3 h3 => ?_
 exact k z H3 c ((s1.trans s2).trans s3) (Out.ahead S.ok S.p (s1.trans s2) o3) h3
def fn2 (F : PyData → PyData → Option R) : PyData → PyData → (R → Prop) → Prop := fun a b Q => ∃ r, F a b = some r ∧ Q r
def bD (f : DE) : DT := fun ρ Q => f ρ fun r => ∃ b, r.d = .bool b ∧ Q b
theorem td_val {t : TE} {f : DE} (h : ED K O t f) : TD K O (tTest t) (bD f) := fun σ H ρ Q Qd S hf k => by
 refine h σ H ρ _ _ S hf fun v H1 r s1 o1 ⟨b, e, q⟩ => ?_
 have i := o1.is S.ok S.p
 rw [e] at i
 cases i
 exact ⟨b, rfl, k b H1 s1 q⟩
theorem td_valB {t : TE} {f : DE} (h : ED K O t f) : TD K O (tB t) (bD f) := fun σ H ρ Q Qd S hf k => by
 refine h σ H ρ _ _ S hf fun v H1 r s1 o1 ⟨b, e, q⟩ => ?_
 have i := o1.is S.ok S.p
 rw [e] at i
 cases i
 exact ⟨b, rfl, k b H1 s1 q⟩
def andT (f g : DT) : DT := fun ρ Q => f ρ fun b => if b = true then g ρ Q else Q false
def orT (f g : DT) : DT := fun ρ Q => f ρ fun b => if b = true then Q true else g ρ Q
def notT (f : DT) : DT := fun ρ Q => f ρ fun b => Q (!b)
theorem td_and {t u : TT} {f g : DT} (h : TD K O t f) (h' : TD K O u g) : TD K O (tAnd t u) (andT f g) := fun σ H ρ Q Qd S hf k => by
 refine h σ H ρ _ _ S hf fun b H1 s1 q => ?_
 cases b with
 | true => exact h' σ H1 ρ _ _ (S.stp s1) q fun c H2 s2 q2 => k c H2 (s1.trans s2) q2
 | false => exact k false H1 s1 q
theorem td_or {t u : TT} {f g : DT} (h : TD K O t f) (h' : TD K O u g) : TD K O (tOr t u) (orT f g) := fun σ H ρ Q Qd S hf k => by
 refine h σ H ρ _ _ S hf fun b H1 s1 q => ?_
 cases b with
 | false => exact h' σ H1 ρ _ _ (S.stp s1) q fun c H2 s2 q2 => k c H2 (s1.trans s2) q2
 | true => exact k true H1 s1 q
theorem td_not {t : TT} {f : DT} (h : TD K O t f) : TD K O (tNot t) (notT f) := fun σ H ρ Q Qd S hf k => h σ H ρ _ _ S hf fun b H1 s1 q => k (!b) H1 s1 q
def aNil : DA := fun _ Q => Q []
def aCons (f : DE) (g : DA) : DA := fun ρ Q => f ρ fun r => g ρ fun ds => Q (r.d :: ds)
theorem ad_nil : AD K O tNil aNil := fun σ H ρ Q Qd S h k => k [] H [] (.refl _ _) .nil h
theorem ad_cons {t : TE} {u : TA} {f : DE} {g : DA} (h : ED K O t f) (h' : AD K O u g) : AD K O (tCons t u) (aCons f g) := fun σ H ρ Q Qd S hf k => by
 refine h σ H ρ _ _ S hf fun v H1 r s1 o1 q => ?_
 refine h' σ H1 ρ _ _ (S.stp s1) q fun vs H2 ds s2 o2 q2 => ?_
 exact k (v :: vs) H2 (r.d :: ds) (s1.trans s2) (.cons (Is.stp s2 (fun _ f => f) (fun _ f => f) (o1.is S.ok S.p)) o2) q2
def tupD (g : DA) : DE := fun ρ Q => g ρ fun ds => ds.length ≤ sizeLine ∧ Q (.o (.tuple ds))
def lstD (g : DA) : DE := fun ρ Q => g ρ fun ds => ds.length ≤ sizeLine ∧ Q (.n ds)
theorem ed_tup {u : TA} {g : DA} (h : AD K O u g) : ED K O (tTup u) (tupD g) := fun σ H ρ Q Qd S hf k => by
 refine h σ H ρ _ _ S hf fun vs H1 ds s1 o1 ⟨z, q⟩ => ⟨by rw [o1.length]; exact z, fun p hp => ?_⟩
 have s2 : Stp O H1 (upd H1 p (.tup vs)) := .new S.ok hp _
 exact k _ _ (.o (.tuple ds)) (s1.trans s2) (.tuple (.of upd_same) (o1.stp s2 (fun _ f => f) (fun _ f => f))) q
theorem ed_lst {u : TA} {g : DA} (h : AD K O u g) : ED K O (tLst u) (lstD g) := fun σ H ρ Q Qd S hf k => by
 refine h σ H ρ _ _ S hf fun vs H1 ds s1 o1 ⟨z, q⟩ => ⟨by rw [o1.length]; exact z, fun p hp => ?_⟩
 have s2 : Stp O H1 (upd H1 p (.lst vs)) := .new S.ok hp _
 have m : ¬ O.M p := fun m => by obtain ⟨o, z⟩ := S.ok.here H1 p (s1.p S.p) m; rw [hp] at z; cases z
 exact k _ _ (.n ds) (s1.trans s2) ⟨p, vs, rfl, s1.s.free m hp, upd_same, o1.stp s2 (fun _ f => f) (fun _ f => f)⟩ q
def CallD (K : PySem.W.Frag) (O : Ob) (r : List V → Hp → VK → Prop) (f : List PyData → (R → Prop) → Prop) : Prop :=
 ∀ (H : Hp) (vs : List V) (ds : List PyData) (Q : VK) (Qd : R → Prop), O.Ok → O.P H → IsAll K (unM O) H vs ds → f ds Qd → (∀ v H' r, Stp O H H' → Out K O H H' v r → Qd r → Q v H') → r vs H Q
def callDE (f : List PyData → (R → Prop) → Prop) (g : DA) : DE := fun ρ Q => g ρ fun ds => f ds Q
theorem ed_callB {r : List V → Hp → VK → Prop} {u : TA} {f : List PyData → (R → Prop) → Prop} {g : DA} (hr : CallD K O r f) (h : AD K O u g) : ED K O (tCB r u) (callDE f g) := fun σ H ρ Q Qd S hf k => by
 refine h σ H ρ _ _ S hf fun vs H1 ds s1 o1 q => ?_
 exact hr H1 vs ds _ _ S.ok (s1.p S.p) o1 q fun v H2 r s2 o2 q2 => k v H2 r (s1.trans s2) (o2.ahead S.ok S.p s1) q2
def fn1 (F : List PyData → Option R) : List PyData → (R → Prop) → Prop := fun ds Q => ∃ r, F ds = some r ∧ Q r
end
end L3
namespace L3
open PySem PySem.Spec
open PyProof.Rows hiding St
open L2
abbrev DG := PyData → DSt → (DSt → Prop) → Prop
def gN (i : Nat) : DG := fun d ρ Q => Q (ρ.set i (some (.im d)))
def gTD : List Nat → List PyData → DSt → (DSt → Prop) → Prop
 | [], [], ρ, Q => Q ρ
 | i :: is, d :: ds, ρ, Q => gTD is ds (ρ.set i (some (.im d))) Q
 | _, _, _, _ => False
def gT (is : List Nat) : DG := fun d ρ Q => ∃ ds, d = .tuple ds ∧ gTD is ds ρ Q
def GS (K : PySem.W.Frag) (O : Ob) (t : TG) (g : DG) : Prop :=
 ∀ (σ : St) (H : Hp) (ρ : DSt) (v : V) (d : PyData) (Q : St → Hp → Prop) (Qd : DSt → Prop), Seen K O H σ ρ → Is K (unM O) H v d → g d ρ Qd → (∀ σ' ρ', Seen K O H σ' ρ' → Qd ρ' → Q σ' H) → t v σ H Q
section
variable {K : PySem.W.Frag} {O : Ob}
theorem Seen.set {H : Hp} {σ : St} {ρ : DSt} {i : Nat} {v : V} {r : DV} (S : Seen K O H σ ρ) (h : SeenV K O H v r) : Seen K O H (σ.set i (some v)) (ρ.set i (some r)) := by
 have hl := S.len
 refine ⟨S.ok, S.p, fun j r' e => ?_, by rw [List.length_set, List.length_set]; exact S.len⟩
 by_cases hj : i = j
 · subst hj
   have hi : i < ρ.length := by
     rcases Nat.lt_or_ge i ρ.length with z | z
     · exact z
     · rw [List.getElem?_eq_none (by simpa using z)] at e; cases e
   rw [List.getElem?_set_self hi] at e
   cases e
   exact ⟨v, List.getElem?_set_self (by omega), h⟩
 · rw [List.getElem?_set_ne hj] at e
   obtain ⟨w, h1, h2⟩ := S.at_ j r' e
   exact ⟨w, by rw [List.getElem?_set_ne hj]; exact h1, h2⟩
theorem gs_name {i : Nat} : GS K O (gName i) (gN i) := fun σ H ρ v d Q Qd S i h k => k _ _ (S.set (r := .im d) i) h
def GSs (K : PySem.W.Frag) (O : Ob) (t : TGs) (is : List Nat) : Prop :=
 ∀ (σ : St) (H : Hp) (ρ : DSt) (vs : List V) (ds : List PyData) (Q : St → Hp → Prop) (Qd : DSt → Prop), Seen K O H σ ρ → IsAll K (unM O) H vs ds → gTD is ds ρ Qd → (∀ σ' ρ', Seen K O H σ' ρ' → Qd ρ' → Q σ' H) → t vs σ H Q
theorem gss_nil : GSs K O gNil [] := fun σ H ρ vs ds Q Qd S i h k => by
 cases i with
 | nil => exact ⟨rfl, k σ ρ S h⟩
 | cons _ _ => exact h.elim
theorem gss_cons {i : Nat} {is : List Nat} {t : TGs} (ht : GSs K O t is) : GSs K O (gCons (gName i) t) (i :: is) := fun σ H ρ vs ds Q Qd S h q k => by
 cases h with
 | nil => exact q.elim
 | cons h1 h2 => exact ⟨_, _, rfl, ht _ H _ _ _ _ _ (S.set (r := .im _) h1) h2 q k⟩
theorem gTD_len : ∀ {is : List Nat} {ds : List PyData} {ρ : DSt} {Q : DSt → Prop}, gTD is ds ρ Q → ds.length = is.length
 | [], [], _, _, _ => rfl
 | [], _ :: _, _, _, h => h.elim
 | _ :: _, [], _, _, h => h.elim
 | _ :: is, _ :: ds, ρ, Q, h => by
   have e := gTD_len (is := is) (ds := ds) (Q := Q) h
   rw [List.length_cons, List.length_cons, e]
theorem gs_tup {is : List Nat} {t : TGs} {n : Nat} (hn : is.length = n) (ht : GSs K O t is) : GS K O (gTup K n t) (gT is) := fun σ H ρ v d Q Qd S i h k => by
 obtain ⟨ds, rfl, h⟩ := h
 cases i with
 | tuple q r => exact ⟨_, _, rfl, q, by rw [r.length, gTD_len h]; exact hn, ht σ H ρ _ ds Q Qd S r h k⟩
structure Walk (K : PySem.W.Frag) (O : Ob) (H H1 : Hp) (J : It) (ds : List PyData) (B : Addr → Prop) : Prop where
 st : Stp O H H1
 hb : ∀ a, B a → ¬ O.M a ∧ ∃ o, H1 a = some o
 stop : ∀ H2 i, (∀ a o, B a → H1 a = some o → H2 a = some o) → TupStay H1 H2 → ds.length ≤ i → J.stop i H2
 item : ∀ H2 i d, (∀ a o, B a → H1 a = some o → H2 a = some o) → TupStay H1 H2 → ds[i]? = some d → (flat d = true ∨ ∀ a o, H1 a = some o → ¬ O.M a → H2 a = some o) →
   J.go i H2 ∧ ∀ x H3, J.yld i H2 x H3 → Same H2 H3 ∧ Is K (fun a => ¬ O.M a ∧ (flat d = true ∨ ∃ o, H1 a = some o)) H3 x d
abbrev DI := DSt → (Bool → List PyData → Prop) → Prop
def SrcS (K : PySem.W.Frag) (O : Ob) (wi : TI) (f : DI) : Prop :=
 ∀ (σ : St) (H : Hp) (ρ : DSt) (R : It → Hp → Prop) (Qd : Bool → List PyData → Prop), Seen K O H σ ρ → f ρ Qd →
   (∀ (J : It) (H1 : Hp) (ds : List PyData) (B : Addr → Prop) (fr : Bool), Walk K O H H1 J ds B → (fr = true → ∀ a, B a → H a = none) → Qd fr ds → R J H1) → wi σ H R
end
def compGo (h : Nat) (g : DG) (ft : DT) (fe : DE) (ρ : DSt) (Q : List PyData → Prop) : List PyData → List PyData → Prop
 | [], acc => Q acc
 | d :: ds, acc => g d (List.replicate h none ++ ρ) fun ρ2 => ft ρ2 fun b => if b = true then fe ρ2 fun r => acc.length < sizeLine ∧ compGo h g ft fe ρ Q ds (acc ++ [r.d]) else compGo h g ft fe ρ Q ds acc
def compD (h : Nat) (f : DI) (g : DG) (ft : DT) (fe : DE) : DE := fun ρ Q => f ρ fun _ ds => compGo h g ft fe ρ (fun es => Q (.n es)) ds []
section
variable {K : PySem.W.Frag} {O : Ob}
theorem seen_pad {H : Hp} {σ : St} {ρ : DSt} (S : Seen K O H σ ρ) (h : Nat) : Seen K O H (List.replicate h none ++ σ) (List.replicate h none ++ ρ) := by
 refine ⟨S.ok, S.p, fun i r e => ?_, by rw [List.length_append, List.length_append, List.length_replicate, List.length_replicate, S.len]⟩
 by_cases hi : i < h
 · rw [List.getElem?_append_left (by simpa using hi), List.getElem?_replicate, if_pos hi] at e
   cases e
 · rw [List.getElem?_append_right (by simpa using Nat.le_of_not_lt hi), List.length_replicate] at e
   obtain ⟨v, h1, h2⟩ := S.at_ _ r e
   exact ⟨v, by rw [List.getElem?_append_right (by simpa using Nat.le_of_not_lt hi), List.length_replicate]; exact h1, h2⟩
theorem seen_plus {H : Hp} {σ : St} {ρ : DSt} {D : Addr} {xs : List V} (S : Seen K O H σ ρ) (hD : H D = none) : Seen K (O.plus D (.lst xs)) (upd H D (.lst xs)) σ ρ := by
 have gr : Same H (upd H D (.lst xs)) := same_new hD _
 refine ⟨S.ok.plus D xs, ⟨S.ok.grow _ _ gr S.p, upd_same⟩, fun i r e => ?_, S.len⟩
 obtain ⟨v, h1, h2⟩ := S.at_ i r e
 have go : ∀ d, Is K (unM O) H v d → Is K (unM (O.plus D (.lst xs))) (upd H D (.lst xs)) v d := fun d z =>
   z.to (fun a ys f q => ⟨fun m => (by
     rcases m with m | rfl
     · exact f m
     · rw [hD] at q; cases q), gr _ _ q⟩) fun a ys q => SqT.stay (h := q) fun b u _ hb => gr b u hb
 refine ⟨v, h1, ?_⟩
 cases r with
 | im d => exact go d h2
 | own ds => exact go _ h2
 | ob => exact h2
 | scr n => exact IsS.to (fun a u f q => ⟨fun m => (by
     rcases m with m | rfl
     · exact f m
     · rw [hD] at q; cases q), gr _ _ q⟩) h2
 | dct ks =>
   obtain ⟨a, n, h2⟩ := h2
   refine ⟨a, fun m => ?_, h2.to fun u q => gr _ _ q⟩
   rcases m with m | rfl
   · exact n m
   · obtain ⟨_, kvs, q, _⟩ := h2
     rw [hD] at q
     cases q
theorem ed_comp {h : Nat} {wi : TI} {tg : TG} {tf : TT} {te : TE} {f : DI} {g : DG} {ft : DT} {fe : DE} (hs : SrcS K O wi f) (hg : ∀ O' : Ob, GS K O' tg g)
   (hf : ∀ (D : Addr) (xs : List V), ¬ O.M D → TD K (O.plus D (.lst xs)) tf ft) (he : ∀ (D : Addr) (xs : List V), ¬ O.M D → ED K (O.plus D (.lst xs)) te fe) : ED K O (tComp h wi tg tf te) (compD h f g ft fe) := by
 intro σ H ρ Q Qd S hq k
 refine hs σ H ρ _ _ S hq fun J H1 ds B fr W _ hgo D hD => ?_
 have S1 := S.stp W.st
 have nM : ¬ O.M D := fun m => by obtain ⟨o, z⟩ := S.ok.here H1 D S1.p m; rw [hD] at z; cases z
 have aD : ∀ a o, H1 a = some o → a ≠ D := fun a o e z => by rw [z, hD] at e; cases e
 refine ⟨fun i m ys H2 => m = ds.length - i ∧ i ≤ ds.length ∧ H2 D = some (.lst ys) ∧ (∀ a o, H1 a = some o → ¬ O.M a → H2 a = some o) ∧ TupStay H1 H2 ∧ Seen K (O.plus D (.lst ys)) H2 σ ρ ∧
     ∃ acc, IsAll K (fun a => ¬ (O.M a ∨ a = D)) H2 ys acc ∧ compGo h g ft fe ρ (fun es => Qd (.n es)) (ds.drop i) acc, ⟨ds.length, rfl, Nat.zero_le _, upd_same, fun a o e _ => by rw [upd_ne (aD a o e)]; exact e, fun a u _ e => by rw [upd_ne (aD a u e)]; exact e, seen_plus S1 hD, [], .nil, by simpa using hgo⟩, ?_⟩
 rintro i m ys H2 ⟨rfl, hi, hDy, kp, tst, S2, acc, hacc, go⟩
 refine ⟨hDy, ?_⟩
 have kB : ∀ a o, B a → H1 a = some o → H2 a = some o := fun a o b e => kp a o e (W.hb a b).1
 by_cases hlt : i < ds.length
 · right
   have hd : ds[i]? = some ds[i] := List.getElem?_eq_getElem hlt
   rw [List.drop_eq_getElem_cons hlt] at go
   obtain ⟨hgo1, hy⟩ := W.item H2 i ds[i] kB tst hd (.inr kp)
   refine ⟨hgo1, fun x H3 y => ?_⟩
   obtain ⟨sm, ix⟩ := hy x H3 y
   have st3 : Stp (O.plus D (.lst ys)) H2 H3 := .same S2.ok sm
   have S3 := S2.stp st3
   have ix' : Is K (unM (O.plus D (.lst ys))) H3 x ds[i] := by
     by_cases hfl : flat ds[i] = true
     · exact Is.flat (TupStay.refl H3) ix hfl
     · exact ix.weak fun a ha mm => by
         rcases mm with mm | mm
         · exact ha.1 mm
         · rcases ha.2 with z | ⟨o, z⟩
           · exact hfl z
           · exact aD a o z mm
   refine hg _ _ H3 _ x ds[i] _ _ (seen_pad S3 h) ix' go fun σ2 ρ2 Sg q => ?_
   refine hf D ys nM σ2 H3 ρ2 _ _ Sg q fun b H4 st4 q4 => ?_
   have st34 := st3.trans st4
   have acc4 : ∀ {H' : Hp}, Stp (O.plus D (.lst ys)) H2 H' → IsAll K (fun a => ¬ (O.M a ∨ a = D)) H' ys acc := fun st => hacc.stp st (fun _ z => z) (fun _ z => z)
   cases b with
   | false =>
     refine ⟨ds.length - (i + 1), by omega, rfl, hlt, st34.s D _ hDy |> fun z => (st34.p S2.p).2, fun a o e n => ?_, fun a u hu e => st34.t a u hu (tst a u hu e), S2.stp st34, acc, acc4 st34, q4⟩
     exact st34.s a o (kp a o e n) fun mm => by
       rcases mm with mm | mm
       · exact n mm
       · exact aD a o e mm
   | true =>
     refine he D ys nM σ2 H4 ρ2 _ _ (Sg.stp st4) q4 fun yv H5 r st5 o5 ⟨hz, q5⟩ => ?_
     have st25 := st34.trans st5
     have S5 := S2.stp st25
     have hD5 : H5 D = some (.lst ys) := (st25.p S2.p).2
     have iy := o5.is (Sg.stp st4).ok (Sg.stp st4).p
     have a5 := acc4 st25
     refine ⟨hD5, by rw [hacc.length]; exact hz, ds.length - (i + 1), by omega, rfl, hlt, upd_same, fun a o e n => ?_, fun a u hu e => ?_, ?_, acc ++ [r.d], ?_, q5⟩
     · rw [upd_ne (aD a o e)]
       exact st25.s a o (kp a o e n) fun mm => by
         rcases mm with mm | mm
         · exact n mm
         · exact aD a o e mm
     · rw [upd_ne (aD a u e)]
       exact st25.t a u hu (tst a u hu e)
     · have p5 : O.P (upd H5 D (.lst (ys ++ [yv]))) := S.ok.loc H5 _ (fun a m => upd_ne fun z => nM (z ▸ m)) S5.p.1
       refine ⟨S.ok.plus D _, ⟨p5, upd_same⟩, fun j r' e => ?_, S5.len⟩
       obtain ⟨v', h1, h2⟩ := S5.at_ j r' e
       have go : ∀ d, Is K (unM (O.plus D (.lst ys))) H5 v' d → Is K (unM (O.plus D (.lst (ys ++ [yv])))) (upd H5 D (.lst (ys ++ [yv]))) v' d := fun d z =>
         z.to (fun a xs fa qa => ⟨fa, by rw [upd_ne fun z => fa (.inr z)]; exact qa⟩) fun a xs qa => SqT.stay (h := qa) fun b u hu hb => by
           rw [upd_ne fun z => ?_]
           · exact hb
           · obtain ⟨us, e1 | ⟨o', e1⟩⟩ := hu <;> (rw [z, hD5] at hb; cases hb; cases e1)
       refine ⟨v', h1, ?_⟩
       cases r' with
       | im d => exact go d h2
       | own es => exact go _ h2
       | ob => exact h2
       | scr n => exact IsS.to (fun a u fa qa => ⟨fa, by rw [upd_ne fun z => fa (.inr z)]; exact qa⟩) h2
       | dct ks => obtain ⟨a, fa, h2⟩ := h2; exact ⟨a, fa, h2.to fun u qa => by rw [upd_ne fun z => fa (.inr z)]; exact qa⟩
     · have mv : ∀ {vs es}, IsAll K (fun a => ¬ (O.M a ∨ a = D)) H5 vs es → IsAll K (fun a => ¬ (O.M a ∨ a = D)) (upd H5 D (.lst (ys ++ [yv]))) vs es := fun z =>
         z.to (fun a xs fa qa => ⟨fa, by rw [upd_ne fun z => fa (.inr z)]; exact qa⟩) fun a xs qa => SqT.stay (h := qa) fun b u hu hb => by
           rw [upd_ne fun z => ?_]
           · exact hb
           · obtain ⟨us, e1 | ⟨o', e1⟩⟩ := hu <;> (rw [z, hD5] at hb; cases hb; cases e1)
       exact mv (a5.snoc iy)
 · left
   have e : i = ds.length := by omega
   subst e
   rw [List.drop_length] at go
   refine ⟨W.stop H2 _ kB tst (Nat.le_refl _), k _ H2 (.n acc) ?_ ⟨D, ys, rfl, W.st.s.free nM hD, hDy, hacc.weak fun a z m => z (.inl m)⟩ go⟩
   refine W.st.trans ⟨fun a o e n => kp a o e n, fun _ => S2.p.1, tst⟩
end
end L3
namespace L3
open PySem PySem.Spec
open PyProof.Rows hiding St
open L2
section
variable {K : PySem.W.Frag} {O : Ob}
theorem item_at {H1 H2 : Hp} {xs : List V} {ds : List PyData} {i : Nat} {d : PyData} (h : IsAll K (unM O) H1 xs ds) (hd : ds[i]? = some d) (t : TupStay H1 H2) (c : flat d = true ∨ ∀ a o, H1 a = some o → ¬ O.M a → H2 a = some o) :
   ∃ v, xs[i]? = some v ∧ Is K (fun a => ¬ O.M a ∧ (flat d = true ∨ ∃ o, H1 a = some o)) H2 v d := by
 obtain ⟨v, hv, iv⟩ := h.get hd
 refine ⟨v, hv, ?_⟩
 rcases c with c | c
 · exact Is.flat t iv c
 · exact iv.to (fun a ys f q => ⟨⟨f, .inr ⟨_, q⟩⟩, c a _ q f⟩) fun a ys q => SqT.stay (h := q) t
def R.isN : R → Bool
 | .n _ => true
 | .o _ => false
def srcL (f : DE) : DI := fun ρ Q => f ρ fun r => ∃ ds, r.d = .list ds ∧ Q r.isN ds
theorem src_list {t : TE} {f : DE} (h : ED K O t f) : SrcS K O (iList K t) (srcL f) := fun σ H ρ R Qd S hf k => by
 refine h σ H ρ _ _ S hf fun v H1 r st o1 ⟨ds, e, q⟩ => ?_
 have i1 := o1.is S.ok S.p
 rw [e] at i1
 cases i1 with
 | list f0 ha hs =>
   rename_i a xs
   refine ⟨a, rfl, ⟨xs, .of ha⟩, k (Itl K a) H1 ds (fun b => b = a) r.isN ⟨st, fun b hb => by subst hb; exact ⟨f0, _, ha⟩, fun H2 i kb _ hi => ?_, fun H2 i d kb t2 hd c => ?_⟩ (fun z b hb => ?_) q⟩
   · exact ⟨xs, .of (kb a _ rfl ha), by rw [hs.length]; exact hi⟩
   · obtain ⟨w, hw, iw⟩ := item_at (O := O) hs hd t2 c
     have q2 : SqL K H2 a xs := .of (kb a _ rfl ha)
     refine ⟨⟨xs, w, q2, hw⟩, fun x H3 ⟨e3, y⟩ => ?_⟩
     subst e3
     have := y xs q2
     rw [hw] at this
     cases this
     exact ⟨Same.refl _, iw⟩
   · subst hb
     cases r with
     | o d => cases z
     | n es =>
       obtain ⟨a', xs', e', hn, _⟩ := o1
       cases e'
       exact hn
def numsD (lo : Int) (n : Nat) : List PyData := (List.range n).map fun k => .int (lo + (k : Nat))
theorem numsD_get {lo : Int} {n i : Nat} {d : PyData} (h : (numsD lo n)[i]? = some d) : i < n ∧ d = .int (lo + (i : Nat)) := by
 unfold numsD at h
 rw [List.getElem?_map] at h
 by_cases hi : i < n
 · rw [List.getElem?_range hi] at h
   cases h
   exact ⟨hi, rfl⟩
 · rw [List.getElem?_eq_none (by simpa using hi)] at h
   cases h
theorem walk_ints {H H1 : Hp} (st : Stp O H H1) (lo : Int) (n : Nat) : Walk K O H H1 (Itr lo n) (numsD lo n) (fun _ => False) :=
 ⟨st, fun b hb => hb.elim, fun H2 i _ _ hi => (show n ≤ i by simpa [numsD] using hi), fun H2 i d _ t2 hd c => by
   obtain ⟨hi, rfl⟩ := numsD_get hd
   refine ⟨hi, fun x H3 ⟨e3, y⟩ => ?_⟩
   subst e3 y
   exact ⟨Same.refl _, .int _⟩⟩
def srcR1 (g : DA) : DI := fun ρ Q => g ρ fun ds => ∃ j : Int, ds = [.int j] ∧ -(2 ^ 62) ≤ j ∧ j < 2 ^ 62 ∧ Q true (numsD 0 j.toNat)
theorem src_rng1 {t : TA} {g : DA} (h : AD K O t g) : SrcS K O (iRng1 t) (srcR1 g) := fun σ H ρ R Qd S hf k => by
 refine h σ H ρ _ _ S hf fun vs H1 ds st is ⟨j, e, b1, b2, q⟩ => ?_
 subst e
 cases is with
 | cons i0 is =>
   cases is
   cases i0
   exact ⟨j, rfl, b1, b2, k _ H1 _ _ true (walk_ints st 0 j.toNat) (fun _ _ hb => hb.elim) q⟩
end
def sg (c : Nat) : Str := ⟨#[c]⟩
def Its (x : Str) : It := ⟨fun i _ => i < x.cps.size, fun i H v H' => H' = H ∧ ∃ c, x.cps[i]? = some c ∧ v = .str (sg c), fun i _ => x.cps.size ≤ i⟩
theorem turn_str {P : Program} {w : World} {K : PySem.W.Frag} {tg : Expr} {it : Addr} {x : Str} {t : Tok} {ty : String} (hty : ["enumerate", "zip", "dict_itemiterator", "dict_reverseitemiterator", "odict_iterator", "itertools.zip_longest", "itertools.pairwise"].contains ty = false)
   (W : ∀ A' : Around, A'.handled = none → Walks P w A' it [it] [it] x.cps.size (SignAt x) (fun i h => h.IsStrIter it ty x t i))
   (hself : ∀ (A : Around) (i : Nat) (s : Shared) (Q : Value → Shared → Prop) (E : Value → Shared → Prop), s.heap.IsStrIter it ty x t i → Q (.ref it) s → wpAny (model P w) A (pyIter (.ref it)) Q E s) :
   Turn P w K tg (Its x) [it] it (fun i h => i ≤ x.cps.size ∧ h.IsStrIter it ty x t i) where
 mem := by simp
 obj := fun i h st b hb => by
   have e : b = it := by simpa using hb
   subst e
   obtain ⟨_, o, e, c, d⟩ := st
   exact ⟨o, e, fun v z => by rw [d] at z; cases z⟩
 keep := fun i h h' st k => ⟨st.1, by
   obtain ⟨_, o, e, c⟩ := st
   exact ⟨o, k it (by simp) o e, c⟩⟩
 item := by
   intro X hP hw hK hc i pins s σ H E I hf st hg
   subst hP hw hK
   obtain ⟨f0, f1, f2, f3, f4, f5⟩ := hf it (by simp)
   refine (W X.A (I.ok.hd hc)).item i s _ _ hg st.2 fun v h' tk hv st' kk => ?_
   obtain ⟨c, u, hcx, rfl⟩ := hv
   have I1 : Inv X pins σ H { s with heap := h', toks := tk } := I.turned (fun b o hb e => kk b o (by simpa using hb) e) f0 f1 f3 f4 f5
   obtain ⟨o, e, hcl, hdt⟩ := id st'
   exact ⟨_, rfl, go_of (s := { s with heap := h', toks := tk }) e hcl hdt hty ⟨.str (sg c), H, I1, ⟨u, rfl⟩, ⟨rfl, c, hcx, rfl⟩, ⟨hg, st'⟩, fun b hb => (hf b hb).1⟩⟩
 done := by
   intro X hP hw hK hc i pins s σ H E I hf st hg
   subst hP hw hK
   obtain ⟨f0, f1, f2, f3, f4, f5⟩ := hf it (by simp)
   have hi : i = x.cps.size := Nat.le_antisymm st.1 hg
   subst hi
   exact (W X.A (I.ok.hd hc)).done s _ _ st.2 fun h' tk kk => ⟨rfl, I.turned (fun b o hb e => kk b o (by simpa using hb) e) f0 f1 f3 f4 f5⟩
 self := fun A i s Q E st h => hself A i s Q E st.2 h
def iStr (t : TE) : TI := fun σ H R => t σ H fun v H1 => ∃ x, v = .str x ∧ R (Its x) H1
theorem pi_str {X : Cx} {tg l : Expr} {tl : TE} (hl : PE X l tl) : PI X tg l (iStr tl) := by
 intro pins s σ H R I h
 refine thn (hl pins s σ H _ I h) fun v s1 ⟨y, H1, I1, r1, q1⟩ => ?_
 obtain ⟨x, e, q⟩ := q1
 subst e
 obtain ⟨t, rfl⟩ := r1
 have fin : ∀ (o : Obj) (T : Nat → Heap → Prop), Turn X.prog X.w X.K tg (Its x) [s1.heap.objs.size] s1.heap.objs.size T → T 0 (s1.heap.push o) → PIE X pins σ tg R (.ref s1.heap.objs.size) { s1 with heap := s1.heap.push o } := fun o T hT h0 => by
   refine ⟨s1.heap.objs.size, [s1.heap.objs.size], T, Its x, H1, rfl, I1.kept (t' := s1.toks) fun b o e => Heap.get?_push_of_some _ e, hT, h0, fun b hb => ?_, q⟩
   have e : b = s1.heap.objs.size := by simpa using hb
   subst e
   exact I1.fpOk (Nat.le_refl _) (I1.hok.fresh (Nat.le_refl _))
 cases ha : x.cps.all (· < 128)
 · exact wpAny_pyIter_wide ha (fin _ _ (turn_str (by decide) (fun A' hA => Walks.strWide hA _ x t) fun _ _ _ _ _ st h => wpAny_pyIter_striter_wide st h) ⟨Nat.zero_le _, _, Heap.get?_push_size _ rfl, rfl, rfl⟩)
 · exact wpAny_pyIter_ascii ha (fin _ _ (turn_str (by decide) (fun A' hA => Walks.strAscii hA _ x t) fun _ _ _ _ _ st h => wpAny_pyIter_striter_ascii st h) ⟨Nat.zero_le _, _, Heap.get?_push_size _ rfl, rfl, rfl⟩)
def sgs (x : Str) : List PyData := x.cps.toList.map fun c => .str (sg c)
def srcS (f : DE) : DI := fun ρ Q => f ρ fun r => ∃ x, r.d = .str x ∧ Q true (sgs x)
theorem src_str {K : PySem.W.Frag} {O : Ob} {t : TE} {f : DE} (h : ED K O t f) : SrcS K O (iStr t) (srcS f) := fun σ H ρ R Qd S hf k => by
 refine h σ H ρ _ _ S hf fun v H1 r st o1 ⟨x, e, q⟩ => ?_
 have i1 := o1.is S.ok S.p
 rw [e] at i1
 cases i1
 refine ⟨x, rfl, k (Its x) H1 (sgs x) (fun _ => False) true ⟨st, fun b hb => hb.elim, fun H2 i _ _ hi => (show x.cps.size ≤ i by simpa [sgs] using hi), fun H2 i d _ t2 hd c => ?_⟩ (fun _ _ hb => hb.elim) q⟩
 unfold sgs at hd
 rw [List.getElem?_map] at hd
 obtain ⟨n, hn, rfl⟩ := Option.map_eq_some_iff.mp hd
 have hn' : x.cps[i]? = some n := by simpa using hn
 have hi : i < x.cps.size := by
   obtain ⟨z, _⟩ := Array.getElem?_eq_some_iff.mp hn'
   exact z
 refine ⟨hi, fun y H3 ⟨e3, n', h1, h2⟩ => ?_⟩
 subst e3 h2
 rw [hn'] at h1
 cases h1
 exact ⟨Same.refl _, .str _⟩
structure DEnds where
 nx : DSt → Prop
 rt : R → Prop
 bk : DSt → Prop := fun _ => False
 ct : DSt → Prop := fun _ => False
abbrev DS := DEnds → DSt → Prop
def unO (O : Ob) (A : Nat → Addr → Prop) : Addr → Prop := fun a => ¬ O.M a ∧ ∀ j, ¬ A j a
def OwnO (o : HO) : Prop := (∃ xs, o = .lst xs) ∨ ∃ kvs, o = .dK kvs
def RepV (K : PySem.W.Frag) (O : Ob) (A : Nat → Addr → Prop) (H : Hp) (i : Nat) (v : V) : DV → Prop
 | .im d => Is K (unO O A) H v d
 | .own ds => ∃ a xs, v = .ref a ∧ A i a ∧ H a = some (.lst xs) ∧ IsAll K (unO O A) H xs ds
 | .ob => v = O.v
 | .scr n => IsS K (unO O A) H v n
 | .dct ks => ∃ a, A i a ∧ DkAt H v a ks
structure Rep (K : PySem.W.Frag) (O : Ob) (H₀ : Hp) (A : Nat → Addr → Prop) (H : Hp) (σ : St) (ρ : DSt) : Prop where
 ok : O.Ok
 p : O.P H
 p0 : O.P H₀
 st : Stp O H₀ H
 dis : ∀ i j a, A i a → A j a → i = j
 own : ∀ i a, A i a → H₀ a = none ∧ (∃ o, H a = some o ∧ OwnO o) ∧ ¬ O.M a
 at_ : ∀ (i : Nat) r, ρ[i]? = some (some r) → ∃ v, σ[i]? = some (some v) ∧ RepV K O A H i v r
 len : ρ.length = σ.length
def Frm (O : Ob) (A : Nat → Addr → Prop) (H : Hp) (A' : Nat → Addr → Prop) (H' : Hp) : Prop := ∀ a o, H a = some o → unO O A a → H' a = some o ∧ unO O A' a
theorem Frm.refl {O : Ob} {A : Nat → Addr → Prop} {H : Hp} : Frm O A H A H := fun _ _ h u => ⟨h, u⟩
theorem Frm.trans {O : Ob} {A A1 A2 : Nat → Addr → Prop} {H H1 H2 : Hp} (a : Frm O A H A1 H1) (b : Frm O A1 H1 A2 H2) : Frm O A H A2 H2 := fun c o h u => let ⟨h1, u1⟩ := a c o h u; b c o h1 u1
structure Post (K : PySem.W.Frag) (O : Ob) (H₀ : Hp) (A : Nat → Addr → Prop) (H : Hp) (D : Ends) (Dd : DEnds) : Prop where
 nx : ∀ A' σ' H' ρ', Rep K O H₀ A' H' σ' ρ' → Frm O A H A' H' → Dd.nx ρ' → D.nx σ' H'
 bk : ∀ A' σ' H' ρ', Rep K O H₀ A' H' σ' ρ' → Frm O A H A' H' → Dd.bk ρ' → D.bk σ' H'
 ct : ∀ A' σ' H' ρ', Rep K O H₀ A' H' σ' ρ' → Frm O A H A' H' → Dd.ct ρ' → D.ct σ' H'
 rt : ∀ H' v r, Stp O H₀ H' → Out K O H₀ H' v r → Dd.rt r → D.rt v H'
def SD (K : PySem.W.Frag) (O : Ob) (t : TS) (g : DS) : Prop :=
 ∀ (H₀ : Hp) (A : Nat → Addr → Prop) (σ : St) (H : Hp) (ρ : DSt) (D : Ends) (Dd : DEnds), Rep K O H₀ A H σ ρ → g Dd ρ → Post K O H₀ A H D Dd → t D σ H
section
variable {K : PySem.W.Frag} {O : Ob} {H₀ H H' : Hp} {A : Nat → Addr → Prop} {σ : St} {ρ : DSt}
theorem Rep.seen (r : Rep K O H₀ A H σ ρ) : Seen K O H σ ρ := by
 refine ⟨r.ok, r.p, fun i x e => ?_, r.len⟩
 obtain ⟨v, hv, h⟩ := r.at_ i x e
 refine ⟨v, hv, ?_⟩
 cases x with
 | im d => exact h.weak fun a u => u.1
 | own ds =>
   obtain ⟨a, xs, rfl, ha, hl, hs⟩ := h
   exact .list (r.own i a ha).2.2 hl (hs.weak fun a u => u.1)
 | ob => exact h
 | scr n => exact IsS.to (fun a u f q => ⟨f.1, q⟩) h
 | dct ks => obtain ⟨a, ha, h⟩ := h; exact ⟨a, (r.own i a ha).2.2, h⟩
theorem Rep.stp (r : Rep K O H₀ A H σ ρ) (s : Stp O H H') : Rep K O H₀ A H' σ ρ := by
 refine ⟨r.ok, s.p r.p, r.p0, r.st.trans s, r.dis, fun i a ha => ?_, fun i x e => ?_, r.len⟩
 · obtain ⟨h0, ⟨xs, hx, ho⟩, hm⟩ := r.own i a ha
   exact ⟨h0, ⟨xs, s.s a _ hx hm, ho⟩, hm⟩
 · obtain ⟨v, hv, h⟩ := r.at_ i x e
   refine ⟨v, hv, ?_⟩
   cases x with
   | im d => exact Is.stp s (fun _ z => z) (fun _ z => z.1) h
   | own ds =>
     obtain ⟨a, xs, rfl, ha, hl, hs⟩ := h
     exact ⟨a, xs, rfl, ha, s.s a _ hl (r.own i a ha).2.2, hs.stp s (fun _ z => z) (fun _ z => z.1)⟩
   | ob => exact h
   | scr n => exact IsS.to (fun a u f q => ⟨f, s.s a u q f.1⟩) h
   | dct ks => obtain ⟨a, ha, h⟩ := h; exact ⟨a, ha, h.to fun u q => s.s a u q (r.own i a ha).2.2⟩
theorem Frm.stp (s : Stp O H H') : Frm O A H A H' := fun a o e u => ⟨s.s a o e u.1, u⟩
theorem Rep.setIm {i : Nat} {v : V} {d : PyData} (r : Rep K O H₀ A H σ ρ) (h : Is K (unO O A) H v d) : Rep K O H₀ (fun j a => j ≠ i ∧ A j a) H (σ.set i (some v)) (ρ.set i (some (.im d))) := by
 have un : ∀ a, unO O A a → unO O (fun j a => j ≠ i ∧ A j a) a := fun a u => ⟨u.1, fun j z => u.2 j z.2⟩
 refine ⟨r.ok, r.p, r.p0, r.st, fun j k a x y => r.dis j k a x.2 y.2, fun j a x => r.own j a x.2, fun j x e => ?_, by rw [List.length_set, List.length_set]; exact r.len⟩
 by_cases hj : i = j
 · subst hj
   have hi : i < ρ.length := by
     rcases Nat.lt_or_ge i ρ.length with z | z
     · exact z
     · rw [List.getElem?_eq_none (by simpa using z)] at e; cases e
   rw [List.getElem?_set_self hi] at e
   cases e
   exact ⟨v, List.getElem?_set_self (by have := r.len; omega), h.weak un⟩
 · rw [List.getElem?_set_ne hj] at e
   obtain ⟨w, h1, h2⟩ := r.at_ j x e
   refine ⟨w, by rw [List.getElem?_set_ne hj]; exact h1, ?_⟩
   cases x with
   | im d => exact h2.weak un
   | own ds =>
     obtain ⟨a, xs, rfl, ha, hl, hs⟩ := h2
     exact ⟨a, xs, rfl, ⟨fun z => hj z.symm, ha⟩, hl, hs.weak un⟩
   | ob => exact h2
   | scr n => exact IsS.to (fun a u f q => ⟨un a f, q⟩) h2
   | dct ks => obtain ⟨a, ha, h2⟩ := h2; exact ⟨a, ⟨fun z => hj z.symm, ha⟩, h2⟩
theorem Rep.setOwn {i : Nat} {a : Addr} {xs : List V} {ds : List PyData} (r : Rep K O H₀ A H σ ρ) (s : Stp O H H') (hn : H a = none) (hl : H' a = some (.lst xs)) (hf : IsAll K (unM O) H' xs ds) (fl : flats ds = true) :
   Rep K O H₀ (fun j b => (j ≠ i ∧ A j b) ∨ (j = i ∧ b = a)) H' (σ.set i (some (.ref a))) (ρ.set i (some (.own ds))) := by
 have hm : ¬ O.M a := fun m => by obtain ⟨o, z⟩ := r.ok.here H a r.p m; rw [hn] at z; cases z
 have new : ∀ j, ¬ A j a := fun j z => by obtain ⟨_, ⟨ys, q, _⟩, _⟩ := r.own j a z; rw [hn] at q; cases q
 have un : ∀ b o, H b = some o → unO O A b → unO O (fun j b => (j ≠ i ∧ A j b) ∨ (j = i ∧ b = a)) b := fun b o e u => ⟨u.1, fun j z => by
   rcases z with z | z
   · exact u.2 j z.2
   · rw [z.2, hn] at e; cases e⟩
 have mv : ∀ {v d}, Is K (unO O A) H v d → Is K (unO O (fun j b => (j ≠ i ∧ A j b) ∨ (j = i ∧ b = a))) H' v d := fun z =>
   z.to (fun b ys f q => ⟨un b _ q f, s.s b _ q f.1⟩) fun b ys q => SqT.stay (h := q) s.t
 have mvs : ∀ {v d}, IsAll K (unO O A) H v d → IsAll K (unO O (fun j b => (j ≠ i ∧ A j b) ∨ (j = i ∧ b = a))) H' v d := fun z =>
   z.to (fun b ys f q => ⟨un b _ q f, s.s b _ q f.1⟩) fun b ys q => SqT.stay (h := q) s.t
 refine ⟨r.ok, s.p r.p, r.p0, r.st.trans s, fun j k b x y => ?_, fun j b x => ?_, fun j x e => ?_, by rw [List.length_set, List.length_set]; exact r.len⟩
 · rcases x with x | x <;> rcases y with y | y
   · exact r.dis j k b x.2 y.2
   · exact absurd (y.2 ▸ x.2) (new j)
   · exact absurd (x.2 ▸ y.2) (new k)
   · exact x.1.trans y.1.symm
 · rcases x with x | x
   · obtain ⟨h0, ⟨ys, q, ho⟩, m⟩ := r.own j b x.2
     exact ⟨h0, ⟨ys, s.s b _ q m, ho⟩, m⟩
   · obtain ⟨rfl, rfl⟩ := x
     exact ⟨r.st.s.free hm hn, ⟨_, hl, .inl ⟨xs, rfl⟩⟩, hm⟩
 · by_cases hj : i = j
   · subst hj
     have hi : i < ρ.length := by
       rcases Nat.lt_or_ge i ρ.length with z | z
       · exact z
       · rw [List.getElem?_eq_none (by simpa using z)] at e; cases e
     rw [List.getElem?_set_self hi] at e
     cases e
     exact ⟨.ref a, List.getElem?_set_self (by have := r.len; omega), a, xs, rfl, .inr ⟨rfl, rfl⟩, hl, IsAll.flats (TupStay.refl H') hf fl⟩
   · rw [List.getElem?_set_ne hj] at e
     obtain ⟨w, h1, h2⟩ := r.at_ j x e
     refine ⟨w, by rw [List.getElem?_set_ne hj]; exact h1, ?_⟩
     cases x with
     | im d => exact mv h2
     | own es =>
       obtain ⟨b, ys, rfl, hb, hlb, hs⟩ := h2
       exact ⟨b, ys, rfl, .inl ⟨fun z => hj z.symm, hb⟩, s.s b _ hlb (r.own j b hb).2.2, mvs hs⟩
     | ob => exact h2
     | scr n => exact IsS.to (fun b u f q => ⟨un b u q f, s.s b u q f.1⟩) h2
     | dct ks => obtain ⟨b, hb, h2⟩ := h2; exact ⟨b, .inl ⟨fun z => hj z.symm, hb⟩, h2.to fun u q => s.s b u q (r.own j b hb).2.2⟩
theorem Frm.setIm {i : Nat} (s : Stp O H H') : Frm O A H (fun j a => j ≠ i ∧ A j a) H' := fun a o e u => ⟨s.s a o e u.1, u.1, fun j z => u.2 j z.2⟩
theorem Frm.setOwn {i : Nat} {a : Addr} (s : Stp O H H') (hn : H a = none) : Frm O A H (fun j b => (j ≠ i ∧ A j b) ∨ (j = i ∧ b = a)) H' := fun b o e u => ⟨s.s b o e u.1, u.1, fun j z => by
 rcases z with z | z
 · exact u.2 j z.2
 · rw [z.2, hn] at e; cases e⟩
theorem Rep.change {i : Nat} {a : Addr} {ys : List V} {ds es : List PyData} (r : Rep K O H₀ A H σ ρ) (e : ρ[i]? = some (some (.own ds))) (hv : σ[i]? = some (some (.ref a))) (ha : A i a) (hs : IsAll K (unO O A) H ys es) :
   Rep K O H₀ A (upd H a (.lst ys)) σ (ρ.set i (some (.own es))) := by
 obtain ⟨h0, ⟨oo, hz, hoo⟩, hm⟩ := r.own i a ha
 have ts : TupStay H (upd H a (.lst ys)) := fun b u hu hb => by
   rw [upd_ne fun z => ?_]
   · exact hb
   · rw [z, hz] at hb
     cases hb
     obtain ⟨us, e1 | ⟨o', e1⟩⟩ := hu <;> (rcases hoo with ⟨_, e2⟩ | ⟨_, e2⟩ <;> (rw [e2] at e1; cases e1))
 have mv : ∀ {v d}, Is K (unO O A) H v d → Is K (unO O A) (upd H a (.lst ys)) v d := fun z => z.to (fun b us f q => ⟨f, by rw [upd_ne (show b ≠ a from fun w => f.2 i (by rw [w]; exact ha))]; exact q⟩) fun b us q => SqT.stay (h := q) ts
 have mvs : ∀ {v d}, IsAll K (unO O A) H v d → IsAll K (unO O A) (upd H a (.lst ys)) v d := fun z => z.to (fun b us f q => ⟨f, by rw [upd_ne (show b ≠ a from fun w => f.2 i (by rw [w]; exact ha))]; exact q⟩) fun b us q => SqT.stay (h := q) ts
 have pp : O.P (upd H a (.lst ys)) := r.ok.loc H _ (fun b m => upd_ne fun z => hm (z ▸ m)) r.p
 refine ⟨r.ok, pp, r.p0, ⟨fun b o hb n => ?_, fun _ => pp, fun b u hu hb => ts b u hu (r.st.t b u hu hb)⟩, r.dis, fun j b hb => ?_, fun j x ej => ?_, by rw [List.length_set]; exact r.len⟩
 · rw [upd_ne fun z => ?_]
   · exact r.st.s b o hb n
   · rw [z, h0] at hb; cases hb
 · obtain ⟨k0, ⟨us, k1, ko⟩, k2⟩ := r.own j b hb
   by_cases hba : b = a
   · subst hba; exact ⟨k0, ⟨_, upd_same, .inl ⟨ys, rfl⟩⟩, k2⟩
   · exact ⟨k0, ⟨us, by rw [upd_ne hba]; exact k1, ko⟩, k2⟩
 · by_cases hj : i = j
   · subst hj
     have hi : i < ρ.length := (List.getElem?_eq_some_iff.mp e).1
     rw [List.getElem?_set_self hi] at ej
     cases ej
     exact ⟨.ref a, hv, a, ys, rfl, ha, upd_same, mvs hs⟩
   · rw [List.getElem?_set_ne hj] at ej
     obtain ⟨w, h1, h2⟩ := r.at_ j x ej
     refine ⟨w, h1, ?_⟩
     cases x with
     | im d => exact mv h2
     | own fs =>
       obtain ⟨b, us, rfl, hb, hlb, hs2⟩ := h2
       exact ⟨b, us, rfl, hb, by rw [upd_ne (show b ≠ a from fun z => hj (r.dis i j a ha (by rw [← z]; exact hb)))]; exact hlb, mvs hs2⟩
     | ob => exact h2
     | scr n => exact IsS.to (fun b u f q => ⟨f, by rw [upd_ne (show b ≠ a from fun w => f.2 i (by rw [w]; exact ha))]; exact q⟩) h2
     | dct ks => obtain ⟨b, hb, h2⟩ := h2; exact ⟨b, hb, h2.to fun u q => by rw [upd_ne (show b ≠ a from fun z => hj (r.dis i j a ha (by rw [← z]; exact hb)))]; exact q⟩
theorem Frm.change {i : Nat} {a : Addr} {o : HO} (ha : A i a) : Frm O A H A (upd H a o) := fun b u e n => ⟨by rw [upd_ne (show b ≠ a from fun z => n.2 i (by rw [z]; exact ha))]; exact e, n⟩
theorem Rep.disown {i : Nat} {ds : List PyData} (r : Rep K O H₀ A H σ ρ) (e : ρ[i]? = some (some (.own ds))) : Rep K O H₀ (fun j a => j ≠ i ∧ A j a) H σ (ρ.set i (some (.im (.list ds)))) := by
 have un : ∀ a, unO O A a → unO O (fun j a => j ≠ i ∧ A j a) a := fun a u => ⟨u.1, fun j z => u.2 j z.2⟩
 refine ⟨r.ok, r.p, r.p0, r.st, fun j k a x y => r.dis j k a x.2 y.2, fun j a x => r.own j a x.2, fun j x ej => ?_, by rw [List.length_set]; exact r.len⟩
 by_cases hj : i = j
 · subst hj
   have hi : i < ρ.length := (List.getElem?_eq_some_iff.mp e).1
   rw [List.getElem?_set_self hi] at ej
   cases ej
   obtain ⟨w, h1, h2⟩ := r.at_ i _ e
   obtain ⟨a, xs, rfl, ha, hl, hs⟩ := h2
   exact ⟨.ref a, h1, .list ⟨(r.own i a ha).2.2, fun j z => z.1 (r.dis j i a z.2 ha)⟩ hl (hs.weak un)⟩
 · rw [List.getElem?_set_ne hj] at ej
   obtain ⟨w, h1, h2⟩ := r.at_ j x ej
   refine ⟨w, h1, ?_⟩
   cases x with
   | im d => exact h2.weak un
   | own fs =>
     obtain ⟨b, us, rfl, hb, hlb, hs2⟩ := h2
     exact ⟨b, us, rfl, ⟨fun z => hj z.symm, hb⟩, hlb, hs2.weak un⟩
   | ob => exact h2
   | scr n => exact IsS.to (fun a u f q => ⟨un a f, q⟩) h2
   | dct ks => obtain ⟨b, hb, h2⟩ := h2; exact ⟨b, ⟨fun z => hj z.symm, hb⟩, h2⟩
end
section
variable {K : PySem.W.Frag} {O : Ob}
theorem Post.frm {H₀ : Hp} {A A1 : Nat → Addr → Prop} {H H1 : Hp} {D : Ends} {Dd : DEnds} (P : Post K O H₀ A H D Dd) (f : Frm O A H A1 H1) : Post K O H₀ A1 H1 D Dd :=
 ⟨fun A' σ' H' ρ' r g => P.nx A' σ' H' ρ' r (f.trans g), fun A' σ' H' ρ' r g => P.bk A' σ' H' ρ' r (f.trans g), fun A' σ' H' ρ' r g => P.ct A' σ' H' ρ' r (f.trans g), P.rt⟩
def seqD (g k : DS) : DS := fun Dd ρ => g { Dd with nx := k Dd } ρ
theorem sd_seq {t u : TS} {g k : DS} (h : SD K O t g) (h' : SD K O u k) : SD K O (tSeq t u) (seqD g k) := fun H₀ A σ H ρ D Dd r q P =>
 h H₀ A σ H ρ _ _ r q ⟨fun A' σ' H' ρ' r' f q' => h' H₀ A' σ' H' ρ' D Dd r' q' (P.frm f), P.bk, P.ct, P.rt⟩
theorem sd_next : SD K O tNext (fun Dd ρ => Dd.nx ρ) := fun H₀ A σ H ρ D Dd r q P => P.nx A σ H ρ r .refl q
def ifS (c : DT) (g k : DS) : DS := fun Dd ρ => c ρ fun b => if b = true then g Dd ρ else k Dd ρ
theorem sd_if {c : TT} {t u : TS} {fc : DT} {g k : DS} (hc : TD K O c fc) (h : SD K O t g) (h' : SD K O u k) : SD K O (tIfS c t u) (ifS fc g k) := fun H₀ A σ H ρ D Dd r q P => by
 refine hc σ H ρ _ _ r.seen q fun b H1 s1 q1 => ?_
 cases b with
 | true => exact h H₀ A σ H1 ρ D Dd (r.stp s1) q1 (P.frm (.stp s1))
 | false => exact h' H₀ A σ H1 ρ D Dd (r.stp s1) q1 (P.frm (.stp s1))
def retS (f : DE) : DS := fun Dd ρ => f ρ Dd.rt
theorem sd_ret {t : TE} {f : DE} (h : ED K O t f) : SD K O (tRet t) (retS f) := fun H₀ A σ H ρ D Dd r q P => by
 refine h σ H ρ _ _ r.seen q fun v H1 x s1 o1 q1 => P.rt H1 v x (r.st.trans s1) (o1.ahead r.ok r.p0 r.st) q1
def retO (i : Nat) : DS := fun Dd ρ => ∃ ds, ρ[i]? = some (some (.own ds)) ∧ Dd.rt (.n ds)
theorem sd_retOwn {i : Nat} : SD K O (tRet (tVar i)) (retO i) := fun H₀ A σ H ρ D Dd r q P => by
 obtain ⟨ds, e, q⟩ := q
 obtain ⟨v, hv, a, xs, rfl, ha, hl, hs⟩ := r.at_ i _ e
 exact ⟨_, hv, P.rt H _ (.n ds) r.st ⟨a, xs, rfl, (r.own i a ha).1, hl, hs.weak fun b u => u.1⟩ q⟩
def asgS (i : Nat) (f : DE) : DS := fun Dd ρ => f ρ fun r => match r with
 | .o d => flat d = true ∧ Dd.nx (ρ.set i (some (.im d)))
 | .n ds => flats ds = true ∧ Dd.nx (ρ.set i (some (.own ds)))
theorem sd_asg {i : Nat} {t : TE} {f : DE} (h : ED K O t f) : SD K O (tAsg t (gName i)) (asgS i f) := fun H₀ A σ H ρ D Dd r q P => by
 refine h σ H ρ _ _ r.seen q fun v H1 x s1 o1 q1 => ?_
 cases x with
 | o d =>
   obtain ⟨fl, q1⟩ := q1
   exact P.nx _ _ H1 _ ((r.stp s1).setIm (Is.flat (TupStay.refl H1) o1 fl)) (.setIm s1) q1
 | n ds =>
   obtain ⟨fl, q1⟩ := q1
   obtain ⟨a, xs, rfl, hn, hl, hs⟩ := o1
   exact P.nx _ _ H1 _ (r.setOwn s1 hn hl hs fl) (.setOwn s1 hn) q1
def appS (i : Nat) (f : DE) : DS := fun Dd ρ => ∃ ds, ρ[i]? = some (some (.own ds)) ∧ f ρ fun r => flat r.d = true ∧ ds.length < sizeLine ∧ Dd.nx (ρ.set i (some (.own (ds ++ [r.d]))))
theorem sd_append {i : Nat} {t : TE} {f : DE} (h : ED K O t f) : SD K O (tDrop (tBM K "list" rAppend (tVar i) (tCons t tNil))) (appS i f) := fun H₀ A σ H ρ D Dd r q P => by
 obtain ⟨ds, e, q⟩ := q
 obtain ⟨v, hv, a, xs, rfl, ha, hl, hs⟩ := r.at_ i _ e
 refine ⟨_, hv, ?_⟩
 refine ⟨.inl ⟨rfl, xs, .of hl⟩, ?_⟩
 refine h σ H ρ _ _ r.seen q fun w H1 x s1 o1 ⟨fl, hz, q1⟩ => ?_
 have r1 := r.stp s1
 obtain ⟨v1, hv1, a1, xs1, e1, ha1, hl1, hs1⟩ := r1.at_ i _ e
 rw [hv] at hv1
 cases hv1
 cases e1
 refine ⟨a, xs1, w, rfl, rfl, hl1, by rw [hs1.length]; exact hz, ?_⟩
 have iw : Is K (unO O A) H1 w x.d := Is.flat (TupStay.refl H1) (o1.is r.ok r.p) fl
 exact P.nx A σ _ _ (r1.change e hv ha (hs1.snoc iw)) ((Frm.stp s1).trans (.change ha)) q1
end
end L3
namespace L3
open PySem PySem.Spec
open PyProof.Rows hiding St
open L2
def GR (K : PySem.W.Frag) (O : Ob) (t : TG) (g : DG) : Prop :=
 ∀ (H₀ : Hp) (A : Nat → Addr → Prop) (σ : St) (H : Hp) (ρ : DSt) (v : V) (d : PyData) (Q : St → Hp → Prop) (Qd : DSt → Prop), Rep K O H₀ A H σ ρ → flat d = true → Is K (unO O A) H v d → g d ρ Qd →
   (∀ A' σ' ρ', Rep K O H₀ A' H σ' ρ' → Frm O A H A' H → Qd ρ' → Q σ' H) → t v σ H Q
section
variable {K : PySem.W.Frag} {O : Ob}
theorem gr_name {i : Nat} : GR K O (gName i) (gN i) := fun H₀ A σ H ρ v d Q Qd r _ h q k => k _ _ _ (r.setIm h) (.setIm (.refl _ _)) q
def GRs (K : PySem.W.Frag) (O : Ob) (t : TGs) (is : List Nat) : Prop :=
 ∀ (H₀ : Hp) (A : Nat → Addr → Prop) (σ : St) (H : Hp) (ρ : DSt) (vs : List V) (ds : List PyData) (Q : St → Hp → Prop) (Qd : DSt → Prop), Rep K O H₀ A H σ ρ → flats ds = true → IsAll K (unO O A) H vs ds → gTD is ds ρ Qd →
   (∀ A' σ' ρ', Rep K O H₀ A' H σ' ρ' → Frm O A H A' H → Qd ρ' → Q σ' H) → t vs σ H Q
theorem grs_nil : GRs K O gNil [] := fun H₀ A σ H ρ vs ds Q Qd r _ i h k => by
 cases i with
 | nil => exact ⟨rfl, k A σ ρ r .refl h⟩
 | cons _ _ => exact h.elim
theorem grs_cons {i : Nat} {is : List Nat} {t : TGs} (ht : GRs K O t is) : GRs K O (gCons (gName i) t) (i :: is) := fun H₀ A σ H ρ vs ds Q Qd r fl h q k => by
 cases h with
 | nil => exact q.elim
 | cons h1 h2 =>
   rw [flats, Bool.and_eq_true] at fl
   have f1 : Frm O A H (fun j a => j ≠ i ∧ A j a) H := .setIm (.refl _ _)
   refine ⟨_, _, rfl, ht _ _ _ H _ _ _ _ _ (r.setIm h1) fl.2 (IsAll.flats (TupStay.refl H) h2 fl.2) q fun A' σ' ρ' r' f q' => k A' σ' ρ' r' (f1.trans f) q'⟩
theorem gr_tup {is : List Nat} {t : TGs} {n : Nat} (hn : is.length = n) (ht : GRs K O t is) : GR K O (gTup K n t) (gT is) := fun H₀ A σ H ρ v d Q Qd r fl i h k => by
 obtain ⟨ds, rfl, h⟩ := h
 cases i with
 | tuple q is' => exact ⟨_, _, rfl, q, by rw [is'.length, gTD_len h]; exact hn, ht H₀ A σ H ρ _ ds Q Qd r (by simpa [flat] using fl) is' h k⟩
def forGo (g : DG) (gb : DS) (Dd : DEnds) : List PyData → DSt → Prop
 | [], ρ => Dd.nx ρ
 | d :: ds, ρ => flat d = true ∧ g d ρ fun ρ2 => gb { Dd with nx := forGo g gb Dd ds, ct := forGo g gb Dd ds, bk := Dd.nx } ρ2
abbrev DJ := DSt → (List PyData → Prop) → Prop
def SrcR (K : PySem.W.Frag) (O : Ob) (wi : TI) (f : DJ) : Prop :=
 ∀ (H₀ : Hp) (A : Nat → Addr → Prop) (σ : St) (H : Hp) (ρ : DSt) (R : It → Hp → Prop) (Qd : List PyData → Prop), Rep K O H₀ A H σ ρ → f ρ Qd →
   (∀ (J : It) (H1 : Hp) (ds : List PyData) (B : Addr → Prop), Walk K O H H1 J ds B → (∀ a, B a → unO O A a) → Qd ds → R J H1) → wi σ H R
def newJ (f : DI) : DJ := fun ρ Q => f ρ fun fr ds => fr = true ∧ Q ds
theorem srcR_of {wi : TI} {f : DI} (h : SrcS K O wi f) : SrcR K O wi (newJ f) := fun H₀ A σ H ρ R Qd r q k => by
 refine h σ H ρ _ _ r.seen q fun J H1 ds B fr W hfr ⟨e, q1⟩ => k J H1 ds B W (fun a b => ⟨(W.hb a b).1, fun j z => ?_⟩) q1
 obtain ⟨_, ⟨xs, q, _⟩, _⟩ := r.own j a z
 rw [hfr e a b] at q; cases q
def varJ (i : Nat) : DJ := fun ρ Q => ∃ ds, ρ[i]? = some (some (.im (.list ds))) ∧ Q ds
theorem srcR_var {i : Nat} : SrcR K O (iList K (tVar i)) (varJ i) := fun H₀ A σ H ρ R Qd r q k => by
 obtain ⟨ds, e, q⟩ := q
 obtain ⟨v, hv, h⟩ := r.at_ i _ e
 have h' : Is K (unO O A) H v (.list ds) := h
 cases h' with
 | list f0 ha hs =>
   rename_i a xs
   have hs' : IsAll K (unM O) H xs ds := hs.weak fun b u => u.1
   refine ⟨_, hv, a, rfl, ⟨xs, .of ha⟩, k (Itl K a) H ds (fun b => b = a) ⟨.refl _ _, fun b hb => by subst hb; exact ⟨f0.1, _, ha⟩, fun H2 i kb _ hi => ?_, fun H2 i d kb t2 hd c => ?_⟩ (fun b hb => by subst hb; exact f0) q⟩
   · exact ⟨xs, .of (kb a _ rfl ha), by rw [hs.length]; exact hi⟩
   · obtain ⟨w, hw, iw⟩ := item_at (O := O) hs' hd t2 c
     have q2 : SqL K H2 a xs := .of (kb a _ rfl ha)
     refine ⟨⟨xs, w, q2, hw⟩, fun x H3 ⟨e3, y⟩ => ?_⟩
     subst e3
     have := y xs q2
     rw [hw] at this
     cases this
     exact ⟨Same.refl _, iw⟩
def forS (f : DJ) (g : DG) (gb : DS) : DS := fun Dd ρ => f ρ fun ds => forGo g gb Dd ds ρ
theorem Rep.tupStay {H₀ : Hp} {A A2 : Nat → Addr → Prop} {H1 H2 : Hp} {σ : St} {ρ : DSt} (r : Rep K O H₀ A H1 σ ρ) (f : Frm O A H1 A2 H2) : TupStay H1 H2 := fun a u hu e => by
 refine (f a u e ⟨fun m => ?_, fun j z => ?_⟩).1
 · have mm := r.ok.mutb H1 a u r.p e m
   obtain ⟨xs, e1 | ⟨o, e1⟩⟩ := hu
   · exact mm.1 xs e1
   · exact mm.2 o _ e1
 · obtain ⟨_, ⟨xs, q, ho⟩, _⟩ := r.own j a z
   rw [e] at q
   cases q
   obtain ⟨ys, e1 | ⟨o, e1⟩⟩ := hu <;> (rcases ho with ⟨_, e2⟩ | ⟨_, e2⟩ <;> (rw [e2] at e1; cases e1))
theorem sd_for {wi : TI} {tg : TG} {tb : TS} {f : DJ} {g : DG} {gb : DS} (hs : SrcR K O wi f) (hg : GR K O tg g) (hb : SD K O tb gb) : SD K O (tFor wi tg tb) (forS f g gb) := fun H₀ A σ H ρ D Dd r q P => by
 refine hs H₀ A σ H ρ _ _ r q fun J H1 ds B W uB go => ?_
 have r1 := r.stp W.st
 have f1 : Frm O A H A H1 := .stp W.st
 refine ⟨fun i m σ2 H2 => m = ds.length - i ∧ i ≤ ds.length ∧ ∃ A2 ρ2, Rep K O H₀ A2 H2 σ2 ρ2 ∧ Frm O A H1 A2 H2 ∧ forGo g gb Dd (ds.drop i) ρ2, ⟨ds.length, rfl, Nat.zero_le _, A, ρ, r1, .refl, by simpa using go⟩, ?_⟩
 rintro i m σ2 H2 ⟨rfl, hi, A2, ρ2, r2, f2, go2⟩
 have kB : ∀ a o, B a → H1 a = some o → H2 a = some o := fun a o b e => (f2 a o e (uB a b)).1
 have ts : TupStay H1 H2 := r1.tupStay f2
 by_cases hlt : i < ds.length
 · right
   have hd : ds[i]? = some ds[i] := List.getElem?_eq_getElem hlt
   rw [List.drop_eq_getElem_cons hlt] at go2
   obtain ⟨fl, go2⟩ := go2
   obtain ⟨hgo, hy⟩ := W.item H2 i ds[i] kB ts hd (.inl fl)
   refine ⟨hgo, fun σ' H' => ∃ A' ρ', Rep K O H₀ A' H' σ' ρ' ∧ Frm O A H1 A' H' ∧ forGo g gb Dd (ds.drop (i + 1)) ρ', fun σ' H' ⟨A', ρ', x1, x2, x3⟩ => ⟨ds.length - (i + 1), by omega, rfl, hlt, A', ρ', x1, x2, x3⟩, fun x H3 y => ?_⟩
   obtain ⟨sm, ix⟩ := hy x H3 y
   have st3 : Stp O H2 H3 := .same r2.ok sm
   have r3 := r2.stp st3
   refine hg H₀ A2 σ2 H3 ρ2 x ds[i] _ _ r3 fl (Is.flat (TupStay.refl H3) ix fl) go2 fun A3 σ3 ρ3 r3' f3 q3 => ?_
   have f13 : Frm O A H1 A3 H3 := (f2.trans (.stp st3)).trans f3
   refine hb H₀ A3 σ3 H3 ρ3 _ _ r3' q3 ⟨fun A' σ' H' ρ' r' f' q' => ⟨A', ρ', r', f13.trans f', q'⟩, fun A' σ' H' ρ' r' f' q' => P.nx A' σ' H' ρ' r' (f1.trans (f13.trans f')) q', fun A' σ' H' ρ' r' f' q' => ⟨A', ρ', r', f13.trans f', q'⟩, P.rt⟩
 · left
   have e : i = ds.length := by omega
   subst e
   rw [List.drop_length] at go2
   exact ⟨W.stop H2 _ kB ts (Nat.le_refl _), P.nx A2 σ2 H2 ρ2 r2 (f1.trans f2) go2⟩
end
def spO (K : PySem.W.Frag) (φ : Ob → Prop) (n : Nat) (f : List PyData → (R → Prop) → Prop) : Sp := fun vs H Q _ =>
 ∃ (O : Ob) (ds : List PyData) (Qr : R → Prop), O.Ok ∧ φ O ∧ O.P H ∧ ds.length = n ∧ IsAll K (unM O) H vs ds ∧ f ds Qr ∧ ∀ r, Qr r → ∀ v H', Stp O H H' → Out K O H H' v r → Q v H'
def spD (K : PySem.W.Frag) (φ : Ob → Prop) (n : Nat) (f : List PyData → (R → Prop) → Prop) : Sp := fun vs H Q _ =>
 ∃ (O : Ob) (ds : List PyData) (ws : List V) (Qr : R → Prop), O.Ok ∧ φ O ∧ O.P H ∧ ds.length = n ∧ vs = O.v :: ws ∧ IsAll K (unM O) H ws ds ∧ f ds Qr ∧ ∀ r, Qr r → ∀ v H', Stp O H H' → Out K O H H' v r → Q v H'
def dstart (N : List Str) (rs : List DV) : DSt := rs.map some ++ List.replicate (N.length - rs.length) none
section
variable {K : PySem.W.Frag} {O : Ob}
theorem rep_start {N : List Str} {H : Hp} {vs : List V} {rs : List DV} (ok : O.Ok) (p : O.P H) (hl : vs.length = rs.length) (h : ∀ (i : Nat) r, rs[i]? = some r → ∃ v, vs[i]? = some v ∧ ((∃ d, r = .im d ∧ Is K (unM O) H v d) ∨ (r = .ob ∧ v = O.v))) :
   Rep K O H (fun _ _ => False) H (L2.start N vs) (dstart N rs) := by
 refine ⟨ok, p, p, .refl _ _, fun _ _ _ z => z.elim, fun _ _ z => z.elim, fun i r e => ?_, ?_⟩
 · unfold dstart at e
   by_cases hi : i < rs.length
   · rw [List.getElem?_append_left (by simpa using hi), List.getElem?_map] at e
     cases q : rs[i]? with
     | none => rw [q] at e; cases e
     | some r' =>
       rw [q] at e
       have e' : r' = r := Option.some.inj (Option.some.inj e)
       subst e'
       obtain ⟨v, hv, hh⟩ := h i r' q
       refine ⟨v, ?_, ?_⟩
       · unfold L2.start
         rw [List.getElem?_append_left (by rw [List.length_map, hl]; exact hi), List.getElem?_map, hv]
         rfl
       · rcases hh with ⟨d, rfl, hd⟩ | ⟨rfl, hd⟩
         · exact hd.weak fun a u => ⟨u, fun j z => z⟩
         · exact hd
   · rw [List.getElem?_append_right (by simpa using hi), List.getElem?_replicate] at e
     split at e <;> cases e
 · unfold dstart L2.start
   rw [List.length_append, List.length_append, List.length_map, List.length_map, List.length_replicate, List.length_replicate, hl]
theorem run_O {N : List Str} {t : TS} {g : DS} {H : Hp} {vs : List V} {ds : List PyData} {Q : VK} {Qr : R → Prop} (h : SD K O t g) (ok : O.Ok) (p : O.P H) (ia : IsAll K (unM O) H vs ds)
   (hg : g { nx := fun _ => Qr (.o .none), rt := Qr } (dstart N (ds.map .im))) (hQ : ∀ r, Qr r → ∀ v H', Stp O H H' → Out K O H H' v r → Q v H') : t { nx := fun _ H' => Q .non H', rt := Q } (L2.start N vs) H := by
 refine h H _ _ H _ _ _ (rep_start ok p (by rw [List.length_map]; exact ia.length) fun i r e => ?_) hg ⟨fun A' σ' H' ρ' r' _ q => hQ _ q .non H' r'.st Is.none, fun A' σ' H' ρ' r' _ q => q.elim, fun A' σ' H' ρ' r' _ q => q.elim, fun H' v r s o q => hQ r q v H' s o⟩
 rw [List.getElem?_map] at e
 obtain ⟨d, hd, rfl⟩ := Option.map_eq_some_iff.mp e
 obtain ⟨v, hv, iv⟩ := ia.get hd
 exact ⟨v, hv, .inl ⟨d, rfl, iv⟩⟩
theorem run_D {N : List Str} {t : TS} {g : DS} {H : Hp} {ws : List V} {ds : List PyData} {Q : VK} {Qr : R → Prop} (h : SD K O t g) (ok : O.Ok) (p : O.P H) (ia : IsAll K (unM O) H ws ds)
   (hg : g { nx := fun _ => Qr (.o .none), rt := Qr } (dstart N (.ob :: ds.map .im))) (hQ : ∀ r, Qr r → ∀ v H', Stp O H H' → Out K O H H' v r → Q v H') : t { nx := fun _ H' => Q .non H', rt := Q } (L2.start N (O.v :: ws)) H := by
 refine h H _ _ H _ _ _ (rep_start ok p (by rw [List.length_cons, List.length_cons, List.length_map, ia.length]) fun i r e => ?_) hg ⟨fun A' σ' H' ρ' r' _ q => hQ _ q .non H' r'.st Is.none, fun A' σ' H' ρ' r' _ q => q.elim, fun A' σ' H' ρ' r' _ q => q.elim, fun H' v r s o q => hQ r q v H' s o⟩
 cases i with
 | zero => cases e; exact ⟨O.v, rfl, .inr ⟨rfl, rfl⟩⟩
 | succ i =>
   rw [List.getElem?_cons_succ, List.getElem?_map] at e
   obtain ⟨d, hd, rfl⟩ := Option.map_eq_some_iff.mp e
   obtain ⟨v, hv, iv⟩ := ia.get hd
   exact ⟨v, by rw [List.getElem?_cons_succ]; exact hv, .inl ⟨d, rfl, iv⟩⟩
def calD (n : Nat) (f : List PyData → (R → Prop) → Prop) (g : DA) : DE := fun ρ Q => g ρ fun ds => ds.length = n ∧ f ds Q
theorem ed_call {φ : Ob → Prop} {n : Nat} {f : List PyData → (R → Prop) → Prop} {E : XK} {t : TA} {g : DA} (hφ : φ O) (h : AD K O t g) : ED K O (tCall (spO K φ n f) [] E t) (calD n f g) := fun σ H ρ Q Qd S q k => by
 refine h σ H ρ _ _ S q fun vs H1 ds s1 is ⟨hn, q1⟩ => ?_
 rw [List.append_nil]
 exact ⟨O, ds, Qd, S.ok, hφ, s1.p S.p, hn, is, q1, fun r qr v H' s2 o2 => k v H' r (s1.trans s2) (o2.ahead S.ok S.p s1) qr⟩
def calO (i : Nat) (n : Nat) (f : List PyData → (R → Prop) → Prop) (g : DA) : DE := fun ρ Q => ρ[i]? = some (some .ob) ∧ g ρ fun ds => ds.length = n ∧ f ds Q
theorem ed_callO {φ : Ob → Prop} {i n : Nat} {f : List PyData → (R → Prop) → Prop} {E : XK} {t : TA} {g : DA} (hφ : φ O) (h : AD K O t g) : ED K O (tCall (spD K φ n f) [] E (tCons (tVar i) t)) (calO i n f g) := fun σ H ρ Q Qd S q k => by
 obtain ⟨e, q⟩ := q
 obtain ⟨v, hv, hh⟩ := S.at_ i _ e
 refine ⟨v, hv, ?_⟩
 refine h σ H ρ _ _ S q fun vs H1 ds s1 is ⟨hn, q1⟩ => ?_
 show spD K φ n f ((v :: vs) ++ []) H1 Q E
 rw [List.append_nil]
 exact ⟨O, ds, vs, Qd, S.ok, hφ, s1.p S.p, hn, by rw [show v = O.v from hh], is, q1, fun r qr v H' s2 o2 => k v H' r (s1.trans s2) (o2.ahead S.ok S.p s1) qr⟩
theorem spO_len {φ : Ob → Prop} {n : Nat} {f : List PyData → (R → Prop) → Prop} {ps : List Str} (hn : ps.length = n) : ∀ vs H Q E, spO K φ n f vs H Q E → vs.length = ps.length := fun vs H Q E ⟨O, ds, _, _, _, _, h, is, _⟩ => by rw [is.length, h, hn]
theorem spD_len {φ : Ob → Prop} {n : Nat} {f : List PyData → (R → Prop) → Prop} {ps : List Str} (hn : ps.length = n + 1) : ∀ vs H Q E, spD K φ n f vs H Q E → vs.length = ps.length := fun vs H Q E ⟨O, ds, ws, _, _, _, _, h, e, is, _⟩ => by rw [e, List.length_cons, is.length, h, hn]
end
end L3
namespace L3
open PySem PySem.Spec
open PyProof.Rows hiding St
open L2
section
variable {X : Cx}
def rEqD (K : PySem.W.Frag) (neg : Bool) : R2 := fun x y H Q => ∃ F G d e, Is K F H x d ∧ Is K G H y e ∧ d.canLay0 = true ∧ e.canLay0 = true ∧ d.depth ≤ 60 ∧ Q (.bl (if neg then !PyData.eqv d e else PyData.eqv d e)) H
theorem op_eqD (hu : X.A.units + 64 < cLine) : OpR X (compareOp .Eq) (rEqD X.K false) := by
 intro pins s σ H x y v u Q I rx ry h
 obtain ⟨F, G, d, e, i1, i2, h1, h2, h3, q⟩ := h
 obtain ⟨as, ra⟩ := i1.reads I rx
 obtain ⟨bs, rb⟩ := i2.reads I ry
 exact SeqAt.compareEq_reads ra rb h1 h2 (by omega) ⟨.bl _, H, I, rfl, q⟩
theorem op_neD (hu : X.A.units + 64 < cLine) : OpR X (compareOp .NotEq) (rEqD X.K true) := by
 intro pins s σ H x y v u Q I rx ry h
 obtain ⟨F, G, d, e, i1, i2, h1, h2, h3, q⟩ := h
 obtain ⟨as, ra⟩ := i1.reads I rx
 obtain ⟨bs, rb⟩ := i2.reads I ry
 exact SeqAt.compareNe_reads ra rb h1 h2 (by omega) ⟨.bl _, H, I, rfl, q⟩
theorem vals_bl : ∀ {bs : List Bool} {us : List Value}, Vals (bs.map V.bl) us → us = bs.map Value.bool
 | [], _, r => by cases r; rfl
 | b :: bs, _, r => by
   rw [List.map_cons] at r
   cases r with
   | cons h t => rw [vals_bl t, show _ = Value.bool b from h]; rfl
theorem all_range {bs : List Bool} : (List.range bs.length).all (fun i => bs[i]?.getD false) = bs.all id := by
 apply Bool.eq_iff_iff.mpr
 rw [List.all_eq_true, List.all_eq_true]
 constructor
 · intro h x hx
   obtain ⟨i, hi, e⟩ := List.mem_iff_getElem.mp hx
   have := h i (by simpa using hi)
   rw [List.getElem?_eq_getElem hi] at this
   rw [← e]; simpa using this
 · intro h i hi
   have hi' : i < bs.length := by simpa using hi
   rw [List.getElem?_eq_getElem hi']
   simpa using h _ (List.getElem_mem hi')
def rAll (any : Bool) : List V → Hp → VK → Prop := fun xs H Q => ∃ (p : Addr) (bs : List Bool), xs = [.ref p] ∧ H p = some (.lst (bs.map V.bl)) ∧ Q (.bl (if any then bs.any id else bs.all id)) H
theorem call_allL (hc : X.calm = true) : CallR X (.builtin "all") (rAll false) := by
 intro pins s σ H xs us Q I r h
 obtain ⟨p, bs, rfl, hH, q⟩ := h
 obtain ⟨u, rfl, ru⟩ := Vals.one r
 cases ru
 obtain ⟨z, its, n, rv, hl, e⟩ := I.lstM hH
 have ei := vals_bl rv
 subst ei
 have pl : s.heap.IsList p (bs.map Value.bool).toArray := ⟨_, e, rfl, _, rfl⟩
 have hne : p ≠ s.heap.objs.size := Nat.ne_of_lt (Heap.lt_size e)
 refine call_all_walk (wpAny_pyIter_list pl ?_)
 refine ⟨s.heap.objs.size, _, _, _, _, _, fun i => bs[i]?.getD false, rfl, Walks.list (A := X.A.in1) (I.ok.hd hc) _ p hne (bs.map Value.bool).toArray, ⟨⟨_, Heap.get?_push_size _ rfl, rfl, rfl⟩, _, Heap.get?_push_of_some _ e, rfl, _, rfl⟩, ?_, fun h' tk kk => ?_⟩
 · intro i v s' Q' E' hv hq
   have hv : (bs.map Value.bool).toArray[i]? = some v := hv
   rw [List.getElem?_toArray, List.getElem?_map] at hv
   obtain ⟨b, hb, rfl⟩ := Option.map_eq_some_iff.mp hv
   have hq : Q' (bs[i]?.getD false) s' := hq
   rw [hb] at hq
   exact wpAny_truthy_bool hq
 · have I1 : Inv X pins σ H { s with heap := h', toks := tk } := I.kept fun b o eb => kk b o (by simp; exact Nat.ne_of_lt (Heap.lt_size eb)) (Heap.get?_push_of_some _ eb)
   refine ⟨.bl _, H, I1, ?_, q⟩
   show Value.bool _ = Value.bool _
   rw [List.size_toArray, List.length_map, all_range]
   rfl
theorem vals_str : ∀ {ys : List Str} {us : List Value}, Vals (ys.map V.str) us → StrsAre us ys
 | [], _, r => by cases r; exact .nil
 | y :: ys, _, r => by
   rw [List.map_cons] at r
   cases r with
   | cons h t => obtain ⟨tk, rfl⟩ := h; exact .cons y tk (vals_str t)
theorem vals_of_strs : ∀ {ys : List Str} {us : List Value}, StrsAre us ys → Vals (ys.map V.str) us
 | _, _, .nil => .nil
 | _, _, .cons y t r => .cons ⟨t, rfl⟩ (vals_of_strs r)
def rJoin : V → List V → Hp → VK → Prop := fun x vs H Q => ∃ sep p ys, x = .str sep ∧ vs = [.ref p] ∧ H p = some (.lst (ys.map V.str)) ∧ (ys.map (·.length)).sum + ys.length * sep.length ≤ 16777216 ∧ Q (.str (Txt.join sep ys)) H
theorem mt_join : MtM X "str.join" rJoin := by
 intro pins s σ H x vs v us Q I rx rv h
 obtain ⟨sep, p, ys, rfl, rfl, hH, hz, q⟩ := h
 obtain ⟨t, rfl⟩ := rx
 obtain ⟨u, rfl, ru⟩ := rv.one
 cases ru
 obtain ⟨z, its, n, r, hl, e⟩ := I.lstM hH
 exact join_list ⟨_, e, rfl, _, rfl⟩ (by simpa using vals_str r) hz fun t' k => ⟨.str _, H, I.tok _, ⟨_, rfl⟩, q⟩
def rSortS : List V → Hp → VK → Prop := fun xs H Q => ∃ p ys, xs = [.ref p] ∧ H p = some (.lst (ys.map V.str)) ∧ ys.length < 64 ∧ ∀ zs l, zs.Perm ys → sortedS zs = true → H l = none → Q (.ref l) (upd H l (.lst (zs.map V.str)))
theorem call_sortS : CallR X (.builtin "sorted") rSortS := by
 intro pins s σ H xs us Q I r h
 obtain ⟨p, ys, rfl, hH, hz, q⟩ := h
 obtain ⟨u, rfl, ru⟩ := Vals.one r
 cases ru
 obtain ⟨z, its, n, rv, hl, e⟩ := I.lstM hH
 refine sorted_strs (ss := ys) ⟨_, e, rfl, _, rfl⟩ (vals_str rv) (by rw [← hl, List.length_map]; exact hz) fun out zs h1 h2 h3 => ?_
 obtain ⟨c, he⟩ := sortedAll_at s.heap its out
 have hn : H (s.heap.objs.size + 1) = none := I.hok.fresh (Nat.le_succ _)
 refine ⟨.ref _, _, I.laid (a := s.heap.objs.size + 1) (o := .lst (zs.map V.str)) (t' := s.toks) (fun b o eb => sortedAll_old eb) (Nat.le_succ _) ?_, rfl, q zs _ h2 h3 hn⟩
 refine ⟨?_, out.toList, c, vals_of_strs h1, by simpa using he⟩
 rw [List.length_map, h2.length_eq]
 have : sizeLine = 16777216 := sizeLine_eq
 omega
theorem items_vals {P : Nat → Value → Prop} {acc : Array Value} {ys : List V} (h : ItemsOf P acc ys.length) (hv : ∀ i v, P i v → ∃ y, ys[i]? = some y ∧ RelV y v) : Vals ys acc.toList := by
 have go : ∀ (k : Nat) (zs : List V) (l : List Value), zs.length = l.length → (∀ (i : Nat) v, l[i]? = some v → ∃ y, zs[i]? = some y ∧ RelV y v) → Vals zs l := by
   intro k zs l
   induction l generalizing zs with
   | nil => intro e _; cases zs with
     | nil => exact .nil
     | cons _ _ => simp at e
   | cons a l ih => intro e hh; cases zs with
     | nil => simp at e
     | cons z zs =>
       obtain ⟨y, h1, h2⟩ := hh 0 a rfl
       simp at h1
       subst h1
       exact .cons h2 (ih zs (by simpa using e) fun i v ev => by simpa using hh (i + 1) v (by simpa using ev))
 refine go 0 ys acc.toList (by have e := h.1; simp [e]) fun i v e => hv i v (h.2 i v (by simpa using e))
def rListS : List V → Hp → VK → Prop := fun xs H Q => ∃ x : Str, xs = [.str x] ∧ x.cps.size ≤ sizeLine ∧ ∀ l, H l = none → Q (.ref l) (upd H l (.lst (x.cps.toList.map fun c => V.str (sg c))))
theorem call_listS (hc : X.calm = true) : CallR X (.type "list") rListS := by
 intro pins s σ H xs us Q I r h
 obtain ⟨x, rfl, hz, q⟩ := h
 obtain ⟨u, rfl, ru⟩ := Vals.one r
 obtain ⟨t, rfl⟩ := ru
 refine call_list_str (I.ok.hd hc) x t (fun h' tk acc c kk e it => ?_) hz
 refine ⟨.ref _, _, I.laid (a := s.heap.objs.size) (o := .lst (x.cps.toList.map fun c => V.str (sg c))) kk (Nat.le_refl _) ?_, rfl, q _ I.fresh⟩
 refine ⟨by simpa using hz, acc.toList, c, items_vals (P := SignAt x) (by simpa using it) fun i v hv => ?_, by simpa using e⟩
 obtain ⟨cc, uu, h1, rfl⟩ := hv
 exact ⟨.str (sg cc), by rw [List.getElem?_map]; simp [h1], ⟨uu, rfl⟩⟩
def rRepr (K : PySem.W.Frag) : List V → Hp → VK → Prop := fun xs H Q => ∃ v F d, xs = [v] ∧ Is K F H v d ∧ d.showable = true ∧ d.hasDict = false ∧ d.depth ≤ 60 ∧ d.shown.length ≤ sizeLine ∧ Q (.str d.shown) H
theorem call_reprD (hg : X.A.guards = some []) (hu : X.A.units + 64 < cLine) : CallR X (.builtin "repr") (rRepr X.K) := by
 intro pins s σ H xs us Q I r h
 obtain ⟨v, F, d, rfl, i, h1, h2, h3, h4, q⟩ := h
 obtain ⟨u, rfl, ru⟩ := Vals.one r
 have fin : ∀ h' u tk, (∀ b o, s.heap.get? b = some o → h'.get? b = some o) → EP X pins σ Q (.str d.shown u) { s with heap := h', toks := tk } := fun h' u tk kk => ⟨.str _, H, I.kept kk, ⟨_, rfl⟩, q⟩
 have fin' : ∀ u tk, EP X pins σ Q (.str d.shown u) { s with toks := tk } := fun u tk => ⟨.str _, H, I.tok _, ⟨_, rfl⟩, q⟩
 obtain ⟨as, ra⟩ := i.reads I ru
 cases i with
 | none => cases ru; exact PySem.P.repr_of_none (fin' _ _)
 | bool b => cases ru; exact PySem.P.repr_of_bool (fin' _ _)
 | int n => obtain ⟨t, rfl⟩ := ru; exact PySem.P.repr_of_int (by simpa [PyData.showable] using h1) (fin' _ _)
 | str x => obtain ⟨t, rfl⟩ := ru; exact PySem.P.repr_of_str (fin' _ _) h4
 | list _ _ _ => cases ru; exact repr_of_reads' ra h1 (fun z => by rw [h2] at z; cases z) hg (by omega) (fun _ _ e => e) fin h4
 | tuple _ _ => cases ru; exact repr_of_reads' ra h1 (fun z => by rw [h2] at z; cases z) hg (by omega) (fun _ _ e => e) fin h4
end
end L3
namespace L3
open PySem PySem.Spec
open PyProof.Rows hiding St
open L2
def tx (l : List Nat) : Str := ⟨l.toArray⟩
theorem tx_cps (x : Str) : tx x.cps.toList = x := by cases x; simp [tx]
theorem tx_toList (l : List Nat) : (tx l).cps.toList = l := by simp [tx]
theorem tx_length (l : List Nat) : (tx l).length = l.length := by simp [tx, Str.length]
def cutL {α : Type} (xs : List α) (lo hi : Option Int) : List α := (xs.drop (HT.sIx xs.length 0 lo)).take (HT.sIx xs.length xs.length hi - HT.sIx xs.length 0 lo)
theorem sIx_clip (n d : Nat) (v : Int) : max (0 : Int) (min (if v < 0 then v + n else v) n) = ((HT.sIx n d (some v) : Nat) : Int) := by
 rw [← HT.clip_eq v n d]
 by_cases h : v < 0
 · rw [if_pos h, if_pos h]; omega
 · rw [if_neg h, if_neg h]; omega
theorem slice_range (lo hi : Option Int) (n : Nat) : Builtin.Str.strSliceIndices lo hi 1 n = (List.range (HT.sIx n n hi - HT.sIx n 0 lo)).map fun k => HT.sIx n 0 lo + k := by
 have e1 : (match lo with | none => (0 : Int) | some i => max 0 (min (if i < 0 then i + (n : Int) else i) n)) = ((HT.sIx n 0 lo : Nat) : Int) := by
   cases lo with
   | none => rfl
   | some v => exact sIx_clip n 0 v
 have e2 : (match hi with | none => (n : Int) | some i => max 0 (min (if i < 0 then i + (n : Int) else i) n)) = ((HT.sIx n n hi : Nat) : Int) := by
   cases hi with
   | none => rfl
   | some v => exact sIx_clip n n v
 have e0 : Builtin.Str.strSliceIndices lo hi 1 n = sliceRange ((HT.sIx n 0 lo : Nat) : Int) ((HT.sIx n n hi : Nat) : Int) 1 := by
   rw [← e1, ← e2]
   cases lo <;> cases hi <;> rfl
 rw [e0]
 generalize HT.sIx n 0 lo = a
 generalize HT.sIx n n hi = b
 simp only [sliceRange, show ((1 : Int) > 0) = True from by simp, if_true]
 by_cases hlt : (a : Int) < b
 · have e3 : (((b : Int) - a + 1 - 1) / 1).toNat = b - a := by first | omega | (simp; done) | (simp; omega)
   simp only [hlt, if_true, e3]
   refine List.map_congr_left fun k _ => ?_
   omega
 · have : b - a = 0 := by omega
   simp [hlt, this]
theorem picks' {α : Type} (l : List α) : ∀ (n a : Nat), a + n ≤ l.length → ((List.range n).map fun k => a + k).filterMap (fun i => l[i]?) = (l.drop a).take n
 | 0, _, _ => by simp
 | n + 1, a, h => by
   have hlt : a + n < l.length := by omega
   rw [List.range_succ, List.map_append, List.filterMap_append, picks' l n a (by omega), List.take_add_one, List.getElem?_drop]
   simp [List.getElem?_eq_getElem hlt]
section
variable {X : Cx}
def rSlS : V → Option Int → Option Int → Hp → VK → Prop := fun x lo hi H Q => ∃ z : Str, x = .str z ∧ z.length ≤ sizeLine ∧ Q (.str (tx (cutL z.cps.toList lo hi))) H
theorem sl_str : SlR X rSlS := by
 intro pins s σ H x v vl vu lo hi sl Q I rx hs pl pu h
 obtain ⟨z, rfl, hz, q⟩ := h
 obtain ⟨t, rfl⟩ := rx
 refine ⟨"str", _, PySem.F.slot_str_getitem.lookup, typeIs_str s z t, ?_⟩
 have hl : z.cps.toList.length = z.length := by simp [Str.length]
 have hi' : HT.sIx z.length z.length hi ≤ z.length := HT.sIx_le _ _ (Nat.le_refl _) hi
 have key : ∀ l u : Option (Int × Tok), l.map (·.1) = lo → u.map (·.1) = hi → s.heap.IsSlice sl l u none → wpAny (model X.prog X.w) X.A (getItem (.str z t) (.ref sl)) (EP X pins σ Q) X.xe s := by
   intro l u el eu hsl
   have e : slicePicked z l u none = (List.range (HT.sIx z.length z.length hi - HT.sIx z.length 0 lo)).map fun k => HT.sIx z.length 0 lo + k := by
     unfold slicePicked
     rw [el, eu]
     exact slice_range lo hi z.length
   have ec : tx (cutL z.cps.toList lo hi) = ⟨((slicePicked z l u none).filterMap (z.cps[·]?)).toArray⟩ := by
     rw [e]
     unfold cutL tx
     rw [hl]
     by_cases hij : HT.sIx z.length 0 lo ≤ HT.sIx z.length z.length hi
     · have p := picks' z.cps.toList (HT.sIx z.length z.length hi - HT.sIx z.length 0 lo) (HT.sIx z.length 0 lo) (by rw [hl]; omega)
       rw [← p]
       simp
     · have : HT.sIx z.length z.length hi - HT.sIx z.length 0 lo = 0 := by omega
       rw [this]
       simp
   refine wpAny_getItem_str_slice hsl rfl ?_
   unfold sliceMade
   split
   · rename_i hc
     have hw : (slicePicked z l u none).length = z.length := by simpa using hc
     have ex : tx (cutL z.cps.toList lo hi) = z := by
       rw [e, List.length_map, List.length_range] at hw
       unfold cutL
       rw [hl]
       have h0 : HT.sIx z.length 0 lo = 0 ∨ z.length = 0 := by omega
       rcases h0 with h0 | h0
       · rw [h0] at hw ⊢
         rw [List.drop_zero, List.take_of_length_le (by rw [hl]; omega)]
         exact tx_cps z
       · have hn : z.cps.toList = [] := List.eq_nil_of_length_eq_zero (by rw [hl]; exact h0)
         rw [hn]
         simp only [List.drop_nil, List.take_nil]
         rw [← hn]
         exact tx_cps z
     exact ⟨.str _, H, I, ⟨t, by rw [ex]⟩, q⟩
   · rw [← ec]
     have hlen : (tx (cutL z.cps.toList lo hi)).length ≤ sizeLine := by
       rw [tx_length]
       unfold cutL
       rw [List.length_take, List.length_drop, hl]
       omega
     first
       | exact ⟨.str _, H, I.tok _, ⟨_, rfl⟩, q⟩
       | exact ⟨hlen, .str _, H, I.tok _, ⟨_, rfl⟩, q⟩
       | exact fun _ => ⟨.str _, H, I.tok _, ⟨_, rfl⟩, q⟩
 obtain ⟨o, ho, hc, hd⟩ := hs
 cases pl with
 | none => cases pu with
   | none => exact key none none rfl rfl ⟨o, ho, hc, hd⟩
   | int j t' => exact key none (some (j, t')) rfl rfl ⟨o, ho, hc, hd⟩
 | int i ti => cases pu with
   | none => exact key (some (i, ti)) none rfl rfl ⟨o, ho, hc, hd⟩
   | int j t' => exact key (some (i, ti)) (some (j, t')) rfl rfl ⟨o, ho, hc, hd⟩
def rSlTW (K : PySem.W.Frag) : V → Option Int → Option Int → Hp → VK → Prop := fun x lo hi H Q => ∃ a xs, x = .ref a ∧ SqT K H a xs ∧ (HT.sIx xs.length 0 lo = 0 ∧ HT.sIx xs.length xs.length hi = xs.length) ∧ Q (.ref a) H
theorem getItem_tuple_whole {prog : Program} {w : World} {A : Around} {E : Value → Shared → Prop} {s : Shared} {t sl : Addr} {items : Array Value} {vl vu : Value} {lo hi : Option Int} {Q : Value → Shared → Prop} (ht : IsTup s.heap t items) (hs : s.heap.IsSliceOf sl vl vu .none) (pl : IsPart vl lo) (pu : IsPart vu hi)
   (hw : HT.sIx items.size 0 lo = 0 ∧ HT.sIx items.size items.size hi = items.size) (h : Q (.ref t) s) : wpAny (model prog w) A (getItem (.ref t) (.ref sl)) Q E s := by
 obtain ⟨os, hos, hcs, hds⟩ := id hs
 have hTs : s.TypeIs (.ref sl) "slice" := ⟨os, hos, hcs⟩
 unfold getItem
 try with_reducible refine wpAny_holding ?_
 first | refine wpAny_bind (wpAny_pure ?_) | skip
 refine wpAny_bind (wpAny_sequenceKey ht.typeIs (by decide) ?_)
 refine wpAny_bind (wpAny_callSpecial?_slot (name := Str.ofString "__getitem__") ht.typeIs PyProof.Rows.slot_tuple_getitem
   (wpAny_call_entry PyProof.Rows.slot_tuple_getitem ht.typeIs entry_tuple_getitem ?_ (args_tuple_getitem _ _)))
 show wpAny _ _ (Builtin.Tuple.tupleItemsOf (.ref t) >>= _) _ _ s
 refine wpAny_bind (tupleItemsOf_ ht ?_)
 refine wpAny_bind (wpAny_typeOf hTs ?_)
 rw [if_pos (by decide)]
 refine wpAny_bind (HT.sliceApplied_gen hs pl pu ?_)
 have hno : (((HT.sIx items.size 0 lo : Nat) : Int) == 0 && (1 : Int) == 1 && (HT.sIx items.size items.size hi - HT.sIx items.size 0 lo) == items.size) = true := by
   rw [hw.1, hw.2]
   simp
 show wpAny _ _ (if (((HT.sIx items.size 0 lo : Nat) : Int) == 0 && (1 : Int) == 1 && (HT.sIx items.size items.size hi - HT.sIx items.size 0 lo) == items.size) = true then _ else _) _ _ s
 rw [if_pos hno]
 obtain ⟨o, ho, hc, n, hd⟩ := id ht
 refine wpAny_bind ?_
 unfold Builtin.Tuple.tupleIsExact
 refine wpAny_bind (wpAny_typeOf ht.typeIs (wpAny_pure ?_))
 show wpAny _ _ (if ((Value.type "tuple") == (Value.type "tuple")) = true then _ else _) _ _ s
 rw [if_pos (by decide)]
 exact wpAny_bind (wpAny_rule (wpAny_pure ⟨_, rfl, wpAny_pure h⟩))
theorem sl_tupW : SlR X (rSlTW X.K) := by
 intro pins s σ H x v vl vu lo hi sl Q I rx hs pl pu h
 obtain ⟨a, xs, rfl, hx, hw, q⟩ := h
 cases rx
 obtain ⟨its, r, ht, hz⟩ := I.tuple hx
 have hlen : its.toArray.size = xs.length := by rw [List.size_toArray]; exact r.length.symm
 exact ⟨"tuple", _, PyProof.Rows.slot_tuple_getitem.lookup, ht.typeIs, getItem_tuple_whole ht hs pl pu (by rw [hlen]; exact hw) ⟨.ref a, H, I, rfl, q⟩⟩
def rSl (K : PySem.W.Frag) : V → Option Int → Option Int → Hp → VK → Prop := fun x lo hi H Q => rSlL K x lo hi H Q ∨ rSlT K x lo hi H Q ∨ rSlTW K x lo hi H Q ∨ rSlS x lo hi H Q
theorem sl_any : SlR X (rSl X.K) := sl_list.or (sl_tup.or (sl_tupW.or sl_str))
def rCatT0 (K : PySem.W.Frag) : R2 := fun x y H Q => ∃ a b ys, x = .ref a ∧ y = .ref b ∧ SqT K H a [] ∧ SqT K H b ys ∧ Q (.ref b) H
theorem op_catT0 : OpR X (binaryOp .Add) (rCatT0 X.K) := by
 intro pins s σ H x y v u Q I rx ry h
 obtain ⟨a, b, ys, rfl, rfl, ha, hb, q⟩ := h
 cases rx
 cases ry
 obtain ⟨its, r1, p1, _⟩ := I.tuple ha
 obtain ⟨its2, r2, p2, _⟩ := I.tuple hb
 cases r1
 obtain ⟨⟨cls, dd, data, sl⟩, ho, hc, n, hd⟩ := id p1
 obtain ⟨⟨cls2, dd2, data2, sl2⟩, ho2, hc2, n2, hd2⟩ := id p2
 simp only at hc hd hc2 hd2
 subst hc hd hc2 hd2
 exact concat_meets ⟨_, ho, rfl⟩ ⟨_, ho2, rfl⟩ noFill_tuple_add seq_tuple_add PySem.F.slot_tuple_add PySem.F.entry_tuple_add (PySem.F.args_tuple_add_2 _ _)
   (tuple_addW0 a b _ its2.toArray n n2 dd dd2 sl sl2 (by simp)) ⟨ho, ho2, ⟨.ref b, H, I, rfl, q⟩⟩
end
end L3
namespace L3
open PySem PySem.Spec
open PyProof.Rows hiding St
open L2
section
variable {K : PySem.W.Frag} {O : Ob} {F : Addr → Prop} {H : Hp}
theorem isAll_strs : ∀ {vs : List V} {ys : List Str}, IsAll K F H vs (ys.map .str) → vs = ys.map V.str
 | _, [], h => by cases h; rfl
 | _, y :: ys, h => by
   rw [List.map_cons] at h
   cases h with
   | cons h1 h2 => cases h1; rw [isAll_strs h2]; rfl
theorem isAll_bools : ∀ {vs : List V} {bs : List Bool}, IsAll K F H vs (bs.map .bool) → vs = bs.map V.bl
 | _, [], h => by cases h; rfl
 | _, y :: ys, h => by
   rw [List.map_cons] at h
   cases h with
   | cons h1 h2 => cases h1; rw [isAll_bools h2]; rfl
theorem strs_isAll : ∀ (ys : List Str), IsAll K F H (ys.map V.str) (ys.map .str)
 | [] => .nil
 | y :: ys => .cons (.str y) (strs_isAll ys)
theorem isAll_atI {vs : List V} {ds : List PyData} {i : Int} {d : PyData} (h : IsAll K F H vs ds) (e : atI ds i = some d) : ∃ v, atI vs i = some v ∧ Is K F H v d := by
 unfold atI at e ⊢
 rw [h.length]
 cases q : ixN ds.length i with
 | none => rw [q] at e; cases e
 | some j =>
   rw [q] at e
   obtain ⟨v, hv, iv⟩ := h.get (i := j) e
   exact ⟨v, hv, iv⟩
theorem isAll_cut {vs : List V} {ds : List PyData} (h : IsAll K F H vs ds) (lo hi : Option Int) : IsAll K F H (cutV vs lo hi) (cutL ds lo hi) := by
 unfold cutV cutL
 rw [h.length]
 exact (h.drop _).take _
theorem out_list {H : Hp} {p : Addr} {vs : List V} {ds : List PyData} (ok : O.Ok) (hp : H p = none) (h : IsAll K (unM O) H vs ds) : Stp O H (upd H p (.lst vs)) ∧ Out K O H (upd H p (.lst vs)) (.ref p) (.n ds) := by
 have s : Stp O H (upd H p (.lst vs)) := .new ok hp _
 exact ⟨s, p, vs, rfl, hp, upd_same, h.stp s (fun _ z => z) (fun _ z => z)⟩
theorem out_tup {H : Hp} {p : Addr} {vs : List V} {ds : List PyData} (ok : O.Ok) (hp : H p = none) (h : IsAll K (unM O) H vs ds) : Stp O H (upd H p (.tup vs)) ∧ Out K O H (upd H p (.tup vs)) (.ref p) (.o (.tuple ds)) := by
 have s : Stp O H (upd H p (.tup vs)) := .new ok hp _
 exact ⟨s, Is.tuple (.of upd_same) (h.stp s (fun _ z => z) (fun _ z => z))⟩
def okD (d : PyData) : Bool := d.canLay0 && decide (d.depth ≤ 60)
def eqF (neg : Bool) : PyData → PyData → Option R := fun d e => if (okD d && e.canLay0) = true then some (.o (.bool (if neg then !PyData.eqv d e else PyData.eqv d e))) else none
theorem opd_eq (neg : Bool) : OpD K O (rEqD K neg) (fn2 (eqF neg)) := fun H x y d e Q Qd ok p ix iy ⟨r, hr, q⟩ k => by
 unfold eqF at hr
 split at hr
 · rename_i hc
   cases hr
   simp only [Bool.and_eq_true, okD, decide_eq_true_eq] at hc
   exact ⟨_, _, d, e, ix, iy, hc.1.1, hc.2, hc.1.2, k _ H (.o _) (.refl _ _) (Is.bool _) q⟩
 · cases hr
def inF (neg : Bool) : PyData → PyData → Option R := fun d e => match d, e with
 | .str x, .str y => some (.o (.bool (if neg then !(!(Builtin.Str.occurrences y x 0 y.length 1).isEmpty) else !(Builtin.Str.occurrences y x 0 y.length 1).isEmpty)))
 | d, .list es => if (okD d && PyData.canLayAll0 es) = true then some (.o (.bool (if neg then !es.any (fun y => PyData.eqv y d) else es.any fun y => PyData.eqv y d))) else none
 | d, .tuple es => if (okD d && PyData.canLayAll0 es) = true then some (.o (.bool (if neg then !es.any (fun y => PyData.eqv y d) else es.any fun y => PyData.eqv y d))) else none
 | _, _ => none
def intF (g : Int → Int → PyData) : PyData → PyData → Option R
 | .int i, .int j => some (.o (g i j))
 | _, _ => none
theorem opd_int0 {g : Int → Int → V} {G : Int → Int → PyData} (h : ∀ i j H, Is K (unM O) H (g i j) (G i j)) : OpD K O (rI0 g) (fn2 (intF G)) := fun H x y d e Q Qd ok p ix iy ⟨r, hr, q⟩ k => by
 unfold intF at hr
 split at hr
 · cases ix
   cases iy
   cases hr
   exact ⟨_, _, rfl, rfl, k _ H (.o _) (.refl _ _) (h _ _ H) q⟩
 · cases hr
theorem opd_lt : OpD K O (rI0 fun i j => .bl (decide (i < j))) (fn2 (intF fun i j => .bool (decide (i < j)))) := opd_int0 fun _ _ _ => .bool _
def isNF (neg : Bool) : PyData → PyData → (R → Prop) → Prop := fun d e Q => e = .none ∧ Q (.o (.bool (match d with | .none => !neg | _ => neg)))
theorem Is.non {v : V} {d : PyData} (h : Is K F H v d) : decide (v = .non) = (match d with | .none => true | _ => false) := by cases h <;> rfl
theorem opd_notN : OpD K O (fun x y H Q => y = .non ∧ Q (.bl (!decide (x = .non))) H) (isNF true) := fun H x y d e Q Qd ok p ix iy ⟨e1, q⟩ k => by
 subst e1
 cases iy
 refine ⟨rfl, k _ H (.o _) (.refl _ _) ?_ q⟩
 rw [ix.non]
 cases d <;> exact Is.bool _
def rAddU (K : PySem.W.Frag) : R2 := fun x y H Q => rI0 (fun i j => .int (i + j)) x y H Q ∨ (∃ i j, x = .str i ∧ y = .str j ∧ i.length + j.length ≤ sizeLine ∧ Q (.str (i ++ j)) H) ∨ rCat x y H Q ∨ rCatT K x y H Q ∨ rCatT0 K x y H Q
theorem op_addU {X : Cx} : OpR X (binaryOp .Add) (rAddU X.K) := op_add.or (op_add_str.or (op_cat.or (op_catT.or op_catT0)))
def addF : PyData → PyData → Option R := fun d e => match d, e with
 | .int i, .int j => some (.o (.int (i + j)))
 | .str x, .str y => if x.length + y.length ≤ sizeLine then some (.o (.str (x ++ y))) else none
 | .list a, .list b => if a.length + b.length ≤ sizeLine then some (.n (a ++ b)) else none
 | .tuple a, .tuple b => if a.length + b.length ≤ sizeLine then some (.o (.tuple (a ++ b))) else none
 | _, _ => none
theorem opd_add : OpD K O (rAddU K) (fn2 addF) := fun H x y d e Q Qd ok p ix iy ⟨r, hr, q⟩ k => by
 unfold addF at hr
 split at hr
 · cases ix
   cases iy
   cases hr
   exact .inl ⟨_, _, rfl, rfl, k _ H (.o _) (.refl _ _) (Is.int _) q⟩
 · split at hr
   · rename_i hz
     cases ix
     cases iy
     cases hr
     exact .inr (.inl ⟨_, _, rfl, rfl, hz, k _ H (.o _) (.refl _ _) (Is.str _) q⟩)
   · cases hr
 · split at hr
   · rename_i hz
     cases hr
     cases ix with
     | list f1 h1 s1 =>
       cases iy with
       | list f2 h2 s2 =>
         refine .inr (.inr (.inl ⟨_, _, _, _, rfl, rfl, h1, h2, by rw [s1.length, s2.length]; exact hz, fun p' hp => ?_⟩))
         obtain ⟨a1, a2⟩ := out_list ok hp (s1.append s2)
         exact k _ _ _ a1 a2 q
   · cases hr
 · split at hr
   · rename_i hz
     cases hr
     cases ix with
     | tuple h1 s1 =>
       cases iy with
       | tuple h2 s2 =>
         rename_i a xs b ys
         cases xs with
         | nil =>
           cases s1
           exact .inr (.inr (.inr (.inr ⟨a, b, ys, rfl, rfl, h1, h2, k _ H (.o _) (.refl _ _) (Is.tuple h2 s2) q⟩)))
         | cons z zs =>
           refine .inr (.inr (.inr (.inl ⟨a, b, _, ys, rfl, rfl, h1, h2, by simp, by rw [s1.length, s2.length]; exact hz, fun e => ?_, fun _ p' hp => ?_⟩)))
           · subst e
             cases s2
             rw [List.append_nil] at q
             exact k _ H (.o _) (.refl _ _) (Is.tuple h1 s1) q
           · obtain ⟨a1, a2⟩ := out_tup ok hp (s1.append s2)
             exact k _ _ _ a1 a2 q
   · cases hr
 · cases hr
def idxF : PyData → PyData → Option R := fun d e => match d, e with
 | .list ds, .int i => (atI ds i).map .o
 | .tuple ds, .int i => (atI ds i).map .o
 | .str x, .int i => if x.length ≤ sizeLine then (atI x.cps.toList i).map fun c => .o (.str (sg c)) else none
 | _, _ => none
theorem opd_idx : OpD K O (rIx K) (fn2 idxF) := fun H x y d e Q Qd ok p ix iy ⟨r, hr, q⟩ k => by
 unfold idxF at hr
 split at hr
 · obtain ⟨z, hz, rfl⟩ := Option.map_eq_some_iff.mp hr
   cases iy
   cases ix with
   | list f1 h1 s1 =>
     obtain ⟨v, hv, iv⟩ := isAll_atI s1 hz
     exact .inl ⟨_, _, _, v, rfl, rfl, .of h1, hv, k v H (.o z) (.refl _ _) iv q⟩
 · obtain ⟨z, hz, rfl⟩ := Option.map_eq_some_iff.mp hr
   cases iy
   cases ix with
   | tuple h1 s1 =>
     obtain ⟨v, hv, iv⟩ := isAll_atI s1 hz
     exact .inr (.inl ⟨_, _, _, v, rfl, rfl, h1, hv, k v H (.o z) (.refl _ _) iv q⟩)
 · split at hr
   · rename_i hl
     obtain ⟨c, hc, rfl⟩ := Option.map_eq_some_iff.mp hr
     cases iy
     cases ix
     exact .inr (.inr ⟨_, _, c, rfl, rfl, hl, hc, k _ H (.o _) (.refl _ _) (Is.str _) q⟩)
   · cases hr
 · cases hr
abbrev DO := DSt → (Option Int → Prop) → Prop
def OD (K : PySem.W.Frag) (O : Ob) (t : TO) (f : DO) : Prop :=
 ∀ (σ : St) (H : Hp) (ρ : DSt) (Q : Option Int → Hp → Prop) (Qd : Option Int → Prop), Seen K O H σ ρ → f ρ Qd → (∀ o H', Stp O H H' → Qd o → Q o H') → t σ H Q
def noO : DO := fun _ Q => Q none
def someO (f : DE) : DO := fun ρ Q => f ρ fun r => ∃ i, r.d = .int i ∧ Q (some i)
theorem od_none : OD K O tNoPart noO := fun σ H ρ Q Qd S h k => k none H (.refl _ _) h
theorem od_some {t : TE} {f : DE} (h : ED K O t f) : OD K O (tPart t) (someO f) := fun σ H ρ Q Qd S hf k => by
 refine h σ H ρ _ _ S hf fun v H1 r s1 o1 ⟨i, e, q⟩ => ?_
 have iv := o1.is S.ok S.p
 rw [e] at iv
 cases iv
 exact ⟨i, rfl, k (some i) H1 s1 q⟩
def slcF (lo hi : Option Int) : PyData → Option R
 | .list ds => some (.n (cutL ds lo hi))
 | .tuple ds => some (.o (.tuple (cutL ds lo hi)))
 | .str x => if x.length ≤ sizeLine then some (.o (.str (tx (cutL x.cps.toList lo hi)))) else none
 | _ => none
def slD (f : DE) (a b : DO) : DE := fun ρ Q => f ρ fun r => a ρ fun lo => b ρ fun hi => ∃ s, slcF lo hi r.d = some s ∧ Q s
theorem ed_slice {t : TE} {tl th : TO} {f : DE} {a b : DO} (h : ED K O t f) (ha : OD K O tl a) (hb : OD K O th b) : ED K O (tSl (rSl K) t tl th) (slD f a b) := fun σ H ρ Q Qd S hf k => by
 refine h σ H ρ _ _ S hf fun v H1 r s1 o1 q1 => ?_
 refine ha σ H1 ρ _ _ (S.stp s1) q1 fun lo H2 s2 q2 => ?_
 refine hb σ H2 ρ _ _ ((S.stp s1).stp s2) q2 fun hi H3 s3 ⟨s, hr, q⟩ => ?_
 have st := (s1.trans s2).trans s3
 have iv : Is K (unM O) H3 v r.d := Is.stp (s2.trans s3) (fun _ z => z) (fun _ z => z) (o1.is S.ok S.p)
 revert hr
 generalize r.d = d at iv
 intro hr
 unfold slcF at hr
 split at hr
 · cases hr
   cases iv with
   | list f1 h1 z1 =>
     refine .inl ⟨_, _, rfl, .of h1, fun p hp => ?_⟩
     obtain ⟨a1, a2⟩ := out_list S.ok hp (isAll_cut z1 lo hi)
     exact k _ _ _ (st.trans a1) (Out.ahead S.ok S.p st a2) q
 · cases hr
   cases iv with
   | tuple h1 z1 =>
     rename_i a' xs
     by_cases hw : HT.sIx xs.length 0 lo = 0 ∧ HT.sIx xs.length xs.length hi = xs.length
     · refine .inr (.inr (.inl ⟨a', xs, rfl, h1, hw, k _ H3 (.o _) st ?_ q⟩))
       have e : cutV xs lo hi = xs := by
         unfold cutV
         rw [hw.1, hw.2, List.drop_zero, Nat.sub_zero, List.take_length]
       have z2 := isAll_cut z1 lo hi
       rw [e] at z2
       exact Is.tuple h1 z2
     · refine .inr (.inl ⟨a', xs, rfl, h1, hw, fun p hp => ?_⟩)
       obtain ⟨a1, a2⟩ := out_tup S.ok hp (isAll_cut z1 lo hi)
       exact k _ _ _ (st.trans a1) (Out.ahead S.ok S.p st a2) q
 · split at hr
   · rename_i hl
     cases hr
     cases iv
     exact .inr (.inr (.inr ⟨_, rfl, hl, k _ H3 (.o _) st (Is.str _) q⟩))
   · cases hr
 · cases hr
def lenF : List PyData → Option R
 | [.str x] => if x.length ≤ sizeLine then some (.o (.int x.length)) else none
 | [.list ds] => some (.o (.int ds.length))
 | [.tuple ds] => some (.o (.int ds.length))
 | _ => none
theorem isAll_one {vs : List V} {d : PyData} (h : IsAll K F H vs [d]) : ∃ v, vs = [v] ∧ Is K F H v d := by
 cases h with
 | cons h1 h2 => cases h2; exact ⟨_, rfl, h1⟩
theorem cd_len : CallD K O (fun xs H Q => ∃ x n, xs = [x] ∧ LenV K x H n ∧ Q (.int n) H) (fn1 lenF) := fun H vs ds Q Qd ok p is ⟨r, hr, q⟩ k => by
 unfold lenF at hr
 split at hr
 · split at hr
   · rename_i hl
     obtain ⟨v, rfl, iv⟩ := isAll_one is
     cases iv
     cases hr
     exact ⟨_, _, rfl, ⟨hl, rfl⟩, k _ H (.o _) (.refl _ _) (Is.int _) q⟩
   · cases hr
 · obtain ⟨v, rfl, iv⟩ := isAll_one is
   cases hr
   cases iv with
   | list f1 h1 s1 => exact ⟨_, _, rfl, .inl ⟨_, .of h1, s1.length.symm⟩, k _ H (.o _) (.refl _ _) (Is.int _) q⟩
 · obtain ⟨v, rfl, iv⟩ := isAll_one is
   cases hr
   cases iv with
   | tuple h1 s1 => exact ⟨_, _, rfl, .inr ⟨_, h1, s1.length.symm⟩, k _ H (.o _) (.refl _ _) (Is.int _) q⟩
 · cases hr
def allD (any : Bool) : List PyData → (R → Prop) → Prop := fun ds Q => ∃ bs : List Bool, ds = [.list (bs.map .bool)] ∧ Q (.o (.bool (if any then bs.any id else bs.all id)))
theorem cd_all (any : Bool) : CallD K O (rAll any) (allD any) := fun H vs ds Q Qd ok p is ⟨bs, e, q⟩ k => by
 subst e
 obtain ⟨v, rfl, iv⟩ := isAll_one is
 cases iv with
 | list f1 h1 s1 =>
   rw [isAll_bools s1] at h1
   exact ⟨_, bs, rfl, h1, k _ H (.o _) (.refl _ _) (Is.bool _) q⟩
def rListU (K : PySem.W.Frag) : List V → Hp → VK → Prop := fun xs H Q => rListS xs H Q ∨ (∃ p ys, xs = [.ref p] ∧ (SqL K H p ys ∨ SqT K H p ys) ∧ ∀ l, H l = none → Q (.ref l) (upd H l (.lst ys)))
theorem call_listU {X : Cx} (hc : X.calm = true) : CallR X (.type "list") (rListU X.K) := (call_listS hc).or call_list_of
def listF : List PyData → Option R
 | [.str x] => if x.length ≤ sizeLine then some (.n (sgs x)) else none
 | [.list ds] => some (.n ds)
 | [.tuple ds] => some (.n ds)
 | _ => none
theorem sgs_isAll (x : Str) : IsAll K F H (x.cps.toList.map fun c => V.str (sg c)) (sgs x) := by
 have e := strs_isAll (K := K) (F := F) (H := H) (x.cps.toList.map sg)
 rw [List.map_map, List.map_map] at e
 exact e
theorem cd_list : CallD K O (rListU K) (fn1 listF) := fun H vs ds Q Qd ok p is ⟨r, hr, q⟩ k => by
 unfold listF at hr
 split at hr
 · split at hr
   · rename_i hl
     obtain ⟨v, rfl, iv⟩ := isAll_one is
     cases iv
     cases hr
     refine .inl ⟨_, rfl, hl, fun l hl => ?_⟩
     obtain ⟨a1, a2⟩ := out_list (K := K) ok hl (sgs_isAll _)
     exact k _ _ _ a1 a2 q
   · cases hr
 · obtain ⟨v, rfl, iv⟩ := isAll_one is
   cases hr
   cases iv with
   | list f1 h1 s1 =>
     refine .inr ⟨_, _, rfl, .inl (.of h1), fun l hl => ?_⟩
     obtain ⟨a1, a2⟩ := out_list ok hl s1
     exact k _ _ _ a1 a2 q
 · obtain ⟨v, rfl, iv⟩ := isAll_one is
   cases hr
   cases iv with
   | tuple h1 s1 =>
     refine .inr ⟨_, _, rfl, .inr h1, fun l hl => ?_⟩
     obtain ⟨a1, a2⟩ := out_list ok hl s1
     exact k _ _ _ a1 a2 q
 · cases hr
def tupF : List PyData → Option R
 | [.list ds] => some (.o (.tuple ds))
 | [.tuple ds] => some (.o (.tuple ds))
 | _ => none
theorem cd_tuple : CallD K O (fun xs H Q => ∃ p ys, xs = [.ref p] ∧ ((SqL K H p ys ∧ ∀ l, H l = none → Q (.ref l) (upd H l (.tup ys))) ∨ (SqT K H p ys ∧ Q (.ref p) H))) (fn1 tupF) := fun H vs ds Q Qd ok p is ⟨r, hr, q⟩ k => by
 unfold tupF at hr
 split at hr
 · obtain ⟨v, rfl, iv⟩ := isAll_one is
   cases hr
   cases iv with
   | list f1 h1 s1 =>
     refine ⟨_, _, rfl, .inl ⟨.of h1, fun l hl => ?_⟩⟩
     obtain ⟨a1, a2⟩ := out_tup ok hl s1
     exact k _ _ _ a1 a2 q
 · obtain ⟨v, rfl, iv⟩ := isAll_one is
   cases hr
   cases iv with
   | tuple h1 s1 => exact ⟨_, _, rfl, .inr ⟨h1, k _ H (.o _) (.refl _ _) (Is.tuple h1 s1) q⟩⟩
 · cases hr
def reprF : List PyData → Option R
 | [d] => if (d.showable && !d.hasDict && decide (d.depth ≤ 60) && decide (d.shown.length ≤ sizeLine)) = true then some (.o (.str d.shown)) else none
 | _ => none
theorem cd_repr : CallD K O (rRepr K) (fn1 reprF) := fun H vs ds Q Qd ok p is ⟨r, hr, q⟩ k => by
 unfold reprF at hr
 split at hr
 · split at hr
   · rename_i hc
     cases hr
     obtain ⟨v, rfl, iv⟩ := isAll_one is
     simp only [Bool.and_eq_true, decide_eq_true_eq, Bool.not_eq_true'] at hc
     exact ⟨v, _, _, rfl, iv, hc.1.1.1, hc.1.1.2, hc.1.2, hc.2, k _ H (.o _) (.refl _ _) (Is.str _) q⟩
   · cases hr
 · cases hr
def joinD (fo : DE) (fa : DE) : DE := fun ρ Q => fo ρ fun r0 => ∃ sep, r0.d = .str sep ∧ fa ρ fun r => ∃ ys : List Str, r.d = .list (ys.map .str) ∧ (ys.map (·.length)).sum + ys.length * sep.length ≤ 16777216 ∧ Q (.o (.str (Txt.join sep ys)))
theorem ed_join {to ta : TE} {fo fa : DE} (ho : ED K O to fo) (ha : ED K O ta fa) : ED K O (tBM K "str" rJoin to (tCons ta tNil)) (joinD fo fa) := fun σ H ρ Q Qd S hf k => by
 refine ho σ H ρ _ _ S hf fun v H1 r0 s1 o1 ⟨sep, e0, q1⟩ => ?_
 have i0 := o1.is S.ok S.p
 rw [e0] at i0
 cases i0
 refine ⟨rfl, ?_⟩
 refine ha σ H1 ρ _ _ (S.stp s1) q1 fun w H2 r s2 o2 ⟨ys, e, hz, q⟩ => ?_
 have i1 := o2.is S.ok (s1.p S.p)
 rw [e] at i1
 cases i1 with
 | list f1 h1 z1 =>
   rw [isAll_strs z1] at h1
   exact ⟨sep, _, ys, rfl, rfl, h1, hz, k _ H2 (.o _) (s1.trans s2) (Is.str _) q⟩
end
end L3
namespace L3
open PySem PySem.Spec
open PyProof.Rows hiding St
open L2
structure Ctx3 {ι : Type} (P : Program) (w : World) (K : PySem.W.Frag) (mg : Str → Option Value) (base : Heap) (k : Nat) (X : ι → Cx) : Prop where
 hP : ∀ i, (X i).prog = P
 hw : ∀ i, (X i).w = w
 hK : ∀ i, (X i).K = K
 hmg : ∀ i, (X i).mg = mg
 hb : ∀ i, (X i).base = base
 calm : ∀ i, (X i).calm = true
 room : ∀ i, Room k (X i).A
 xe : ∀ i, (X i).xe = fun _ _ => False
def E3 {ι κ : Type} (K : PySem.W.Frag) (X : ι → Cx) (O : κ → Ob) (e : Expr) (f : DE) : Prop := ∃ t, (∀ i, PE (X i) e t) ∧ ∀ j, ED K (O j) t f
def T3 {ι κ : Type} (K : PySem.W.Frag) (X : ι → Cx) (O : κ → Ob) (e : Expr) (f : DT) : Prop := ∃ t, (∀ i, PT (X i) e t) ∧ ∀ j, TD K (O j) t f
def W3 {ι κ : Type} (K : PySem.W.Frag) (X : ι → Cx) (O : κ → Ob) (e : Expr) (f : DT) : Prop := ∃ t, (∀ i, PW (X i) e t) ∧ ∀ j, TD K (O j) t f
def A3 {ι κ : Type} (K : PySem.W.Frag) (X : ι → Cx) (O : κ → Ob) (es : List Expr) (f : DA) : Prop := ∃ t, (∀ i, PA (X i) es t) ∧ ∀ j, AD K (O j) t f
def I3 {ι κ : Type} (K : PySem.W.Frag) (X : ι → Cx) (O : κ → Ob) (tg e : Expr) (f : DI) : Prop := ∃ t, (∀ i, PI (X i) tg e t) ∧ ∀ j, SrcS K (O j) t f
def J3 {ι κ : Type} (K : PySem.W.Frag) (X : ι → Cx) (O : κ → Ob) (tg e : Expr) (f : DJ) : Prop := ∃ t, (∀ i, PI (X i) tg e t) ∧ ∀ j, SrcR K (O j) t f
def S3 {ι κ : Type} (K : PySem.W.Frag) (X : ι → Cx) (O : κ → Ob) (s : Stmt) (g : DS) : Prop := ∃ t, (∀ i, PS (X i) s t) ∧ ∀ j, SD K (O j) t g
def Ss3 {ι κ : Type} (K : PySem.W.Frag) (X : ι → Cx) (O : κ → Ob) (s : List Stmt) (g : DS) : Prop := ∃ t, (∀ i, PSs (X i) s t) ∧ ∀ j, SD K (O j) t g
def O3 {ι κ : Type} (K : PySem.W.Frag) (X : ι → Cx) (O : κ → Ob) (e : Option Expr) (f : DO) : Prop := ∃ t, (∀ i, PO (X i) e t) ∧ ∀ j, OD K (O j) t f
def G3 {ι : Type} (K : PySem.W.Frag) (X : ι → Cx) (h : Nat) (tg : Expr) (g : DG) : Prop := ∃ t, (∀ i, PG (X i) tg t) ∧ (∀ O : Ob, GS K O t g) ∧ (∀ O : Ob, GR K O t g) ∧ OwnG h t
section
variable {ι κ : Type} {P : Program} {w : World} {K : PySem.W.Frag} {mg : Str → Option Value} {base : Heap} {k : Nat} {X : ι → Cx} {O : κ → Ob} {a b c : Expr} {fa fb fc : DE} {pos : Pos}
theorem e_var (n : Nat) {x : Str} (hN : ∀ i, (X i).N[n]? = some x := by intro i; rfl) (hv : ∀ i, Vis (X i).env.scope x := by intro i; first | exact Or.inl rfl | exact Or.inr (Or.inl rfl) | exact Or.inr (Or.inr rfl))
   (hd : (x == ("__debug__" : Str)) = false := by decide) (hcd : (x == ("__classdict__" : Str)) = false := by decide) : E3 K X O (.Name x pos) (vD n) := ⟨_, fun i => pe_var (hN i) (hv i) hd hcd, fun j => ed_var⟩
theorem e_int {n : Int} {j : Nat} : E3 K X O (.Constant (.int n) j pos) (cD (.int n)) := ⟨_, fun i => pe_int, fun j => ed_int⟩
theorem e_str {x : Str} {j : Nat} : E3 K X O (.Constant (.str x) j pos) (cD (.str x)) := ⟨_, fun i => pe_str, fun j => ed_str⟩
theorem e_bl {x : Bool} {j : Nat} : E3 K X O (.Constant (.bool x) j pos) (cD (.bool x)) := ⟨_, fun i => pe_bl, fun j => ed_bl⟩
theorem e_non {j : Nat} : E3 K X O (.Constant .none j pos) (cD .none) := ⟨_, fun i => pe_non, fun j => ed_non⟩
theorem e_op {op : Operator} {r : R2} {F : PyData → PyData → (R → Prop) → Prop} (ho : ∀ i, OpR (X i) (binaryOp op) r) (hd : ∀ j, OpD K (O j) r F) (ha : E3 K X O a fa) (hb : E3 K X O b fb) : E3 K X O (.BinOp a op b pos) (opDE F fa fb) :=
 let ⟨_, p1, d1⟩ := ha; let ⟨_, p2, d2⟩ := hb; ⟨_, fun i => pe_op (ho i) (p1 i) (p2 i), fun j => ed_op (hd j) (d1 j) (d2 j)⟩
theorem e_add (C : Ctx3 P w K mg base k X) (ha : E3 K X O a fa) (hb : E3 K X O b fb) : E3 K X O (.BinOp a .Add b pos) (opDE (fn2 addF) fa fb) := e_op (fun i => by have h := op_addU (X := X i); rw [C.hK] at h; exact h) (fun _ => opd_add) ha hb
theorem e_cmp {op : CmpOp} {r : R2} {F : PyData → PyData → (R → Prop) → Prop} (ho : ∀ i, OpR (X i) (compareOp op) r) (hd : ∀ j, OpD K (O j) r F) (ha : E3 K X O a fa) (hb : E3 K X O b fb) (hm : behindInMarks op b = false) : E3 K X O (.Compare a [op] [b] pos) (opDE F fa fb) :=
 let ⟨_, p1, d1⟩ := ha; let ⟨_, p2, d2⟩ := hb; ⟨_, fun i => pe_cmpR (ho i) (p1 i) (p2 i) hm, fun j => ed_op (hd j) (d1 j) (d2 j)⟩
theorem t_cmp {op : CmpOp} {r : R2} {F : PyData → PyData → (R → Prop) → Prop} (ho : ∀ i, OpR (X i) (compareOp op) r) (hd : ∀ j, OpD K (O j) r F) (ha : E3 K X O a fa) (hb : E3 K X O b fb) (hm : behindInMarks op b = false) : T3 K X O (.Compare a [op] [b] pos) (bD (opDE F fa fb)) :=
 let ⟨_, p1, d1⟩ := ha; let ⟨_, p2, d2⟩ := hb; ⟨_, fun i => pt_cmpR (ho i) (p1 i) (p2 i) hm, fun j => td_val (ed_op (hd j) (d1 j) (d2 j))⟩
theorem oR_eq (C : Ctx3 P w K mg base k X) : ∀ i, OpR (X i) (compareOp .Eq) (rEqD K false) := fun i => by have h := op_eqD (X := X i) (C.room i).units; rw [C.hK] at h; exact h
theorem oR_ne (C : Ctx3 P w K mg base k X) : ∀ i, OpR (X i) (compareOp .NotEq) (rEqD K true) := fun i => by have h := op_neD (X := X i) (C.room i).units; rw [C.hK] at h; exact h
theorem e_eq (C : Ctx3 P w K mg base k X) (ha : E3 K X O a fa) (hb : E3 K X O b fb) : E3 K X O (.Compare a [.Eq] [b] pos) (opDE (fn2 (eqF false)) fa fb) := e_cmp (oR_eq C) (fun _ => opd_eq false) ha hb (nomark b)
theorem e_isNot (ha : E3 K X O a fa) (hb : E3 K X O b fb) : E3 K X O (.Compare a [.IsNot] [b] pos) (opDE (isNF true) fa fb) := e_cmp (fun i => op_notN) (fun _ => opd_notN) ha hb (nomark b)
theorem t_eq (C : Ctx3 P w K mg base k X) (ha : E3 K X O a fa) (hb : E3 K X O b fb) : T3 K X O (.Compare a [.Eq] [b] pos) (bD (opDE (fn2 (eqF false)) fa fb)) := t_cmp (oR_eq C) (fun _ => opd_eq false) ha hb (nomark b)
theorem t_ne (C : Ctx3 P w K mg base k X) (ha : E3 K X O a fa) (hb : E3 K X O b fb) : T3 K X O (.Compare a [.NotEq] [b] pos) (bD (opDE (fn2 (eqF true)) fa fb)) := t_cmp (oR_ne C) (fun _ => opd_eq true) ha hb (nomark b)
theorem t_lt (ha : E3 K X O a fa) (hb : E3 K X O b fb) : T3 K X O (.Compare a [.Lt] [b] pos) (bD (opDE (fn2 (intF fun i j => .bool (decide (i < j)))) fa fb)) := t_cmp (fun i => op_lt) (fun _ => opd_lt) ha hb (nomark b)
variable {ft fu : DT} {rest : List Expr}
theorem t_val (ha : E3 K X O a fa) (he : ∀ i whole, isTrue a (X i).env whole = (do let v ← whole; standAt a.pos; holding [v] (truthy v)) := by intro _ _; rfl) : T3 K X O a (bD fa) := let ⟨_, p, d⟩ := ha; ⟨_, fun i => pt_val (p i) (he i), fun j => td_valB (d j)⟩
theorem t_not (h : T3 K X O a ft) : T3 K X O (.UnaryOp .Not a pos) (notT ft) := let ⟨_, p, d⟩ := h; ⟨_, fun i => pt_not (p i), fun j => td_not (d j)⟩
theorem w_and1 (h : T3 K X O a ft) : W3 K X O (.BoolOp .And [a] pos) ft := let ⟨_, p, d⟩ := h; ⟨_, fun i => pw_and1 (p i), d⟩
theorem w_or1 (h : T3 K X O a ft) : W3 K X O (.BoolOp .Or [a] pos) ft := let ⟨_, p, d⟩ := h; ⟨_, fun i => pw_or1 (p i), d⟩
theorem w_and (h : T3 K X O a ft) (h' : W3 K X O (.BoolOp .And (b :: rest) pos) fu) : W3 K X O (.BoolOp .And (a :: b :: rest) pos) (andT ft fu) := let ⟨_, p, d⟩ := h; let ⟨_, p2, d2⟩ := h'; ⟨_, fun i => pw_and (p i) (p2 i), fun j => td_and (d j) (d2 j)⟩
theorem w_or (h : T3 K X O a ft) (h' : W3 K X O (.BoolOp .Or (b :: rest) pos) fu) : W3 K X O (.BoolOp .Or (a :: b :: rest) pos) (orT ft fu) := let ⟨_, p, d⟩ := h; let ⟨_, p2, d2⟩ := h'; ⟨_, fun i => pw_or (p i) (p2 i), fun j => td_or (d j) (d2 j)⟩
theorem t_w (h : W3 K X O a ft) : T3 K X O a ft := let ⟨_, p, d⟩ := h; ⟨_, fun i => (p i).pt, d⟩
variable {es : List Expr} {ga : DA}
theorem a_nil : A3 K X O [] aNil := ⟨_, fun i => pa_nil, fun j => ad_nil⟩
theorem a_cons (ha : E3 K X O a fa) (hr : A3 K X O es ga) (hs : ∀ i, starEach (a :: es) (X i).env = (false, eval a (X i).env) :: starEach es (X i).env := by intro i; rfl) : A3 K X O (a :: es) (aCons fa ga) := let ⟨_, p, d⟩ := ha; let ⟨_, p2, d2⟩ := hr; ⟨_, fun i => pa_cons (p i) (p2 i) (hs i), fun j => ad_cons (d j) (d2 j)⟩
theorem e_tup {n : Nat} (h : A3 K X O es ga) : E3 K X O (.Tuple es n pos) (tupD ga) := let ⟨_, p, d⟩ := h; ⟨_, fun i => pe_tup (p i), fun j => ed_tup (d j)⟩
theorem e_lst (h : A3 K X O es ga) : E3 K X O (.List es pos) (lstD ga) := let ⟨_, p, d⟩ := h; ⟨_, fun i => pe_lst (p i), fun j => ed_lst (d j)⟩
theorem e_idx (C : Ctx3 P w K mg base k X) (ha : E3 K X O a fa) (hb : E3 K X O b fb) (hs : PlainIx b := by intro _ _; rfl) : E3 K X O (.Subscript a b pos) (opDE (fn2 idxF) fa fb) :=
 let ⟨_, p1, d1⟩ := ha; let ⟨_, p2, d2⟩ := hb; ⟨tOp (rIx K) _ _, fun i => by have h := pe_ix (pos := pos) (ix_seq (X := X i)) (p1 i) (p2 i) hs; rw [C.hK] at h; exact h, fun j => ed_op opd_idx (d1 j) (d2 j)⟩
theorem o_none : O3 K X O none noO := ⟨_, fun i => po_none, fun j => od_none⟩
theorem o_some (ha : E3 K X O a fa) : O3 K X O (some a) (someO fa) := let ⟨_, p, d⟩ := ha; ⟨_, fun i => po_some (p i), fun j => od_some (d j)⟩
theorem e_slice (C : Ctx3 P w K mg base k X) {lo hi : Option Expr} {fl fh : DO} {p2 : Pos} (ha : E3 K X O a fa) (hl : O3 K X O lo fl) (hh : O3 K X O hi fh) : E3 K X O (.Subscript a (.Slice lo hi none p2) pos) (slD fa fl fh) :=
 let ⟨_, p1, d1⟩ := ha; let ⟨_, q2, d2⟩ := hl; let ⟨_, q3, d3⟩ := hh; ⟨tSl (rSl K) _ _ _, fun i => by have h := pe_slice (pos := pos) (p2 := p2) (sl_any (X := X i)) (p1 i) (q2 i) (q3 i); rw [C.hK] at h; exact h, fun j => ed_slice (d1 j) (d2 j) (d3 j)⟩
theorem e_blt {x : Str} {id : String} {r : List V → Hp → VK → Prop} {F : List PyData → (R → Prop) → Prop} {p : Pos} (C : Ctx3 P w K mg base k X) (hc : ∀ i, CallR (X i) (.builtin id) r) (hd : ∀ j, CallD K (O j) r F) (hv : bootBuiltins x = some (.builtin id)) (hm : mg x = none) (ha : A3 K X O (a :: es) ga)
   (hg : ∀ i, Gl (X i) x := by intro i; rfl) (hn : x ≠ "__name__" := by decide) (hdb : (x == ("__debug__" : Str)) = false := by decide) (he : ∀ i, starEach (a :: es) (X i).env = (false, eval a (X i).env) :: starEach es (X i).env := by intro i; rfl) (hpl : ∀ i, (backTo pos (starEach es (X i).env)).any (·.1) = false := by intro i; rfl) :
   E3 K X O (.Call (.Name x p) (a :: es) [] pos) (callDE F ga) := let ⟨_, q, d⟩ := ha; ⟨_, fun i => pe_callB (hc i) (hg i) (by rw [C.hmg]; exact hm) hv (q i) hn hdb (he i) (hpl i), fun j => ed_callB (hd j) (d j)⟩
theorem e_bty {x : Str} {T : String} {r : List V → Hp → VK → Prop} {F : List PyData → (R → Prop) → Prop} {p : Pos} (C : Ctx3 P w K mg base k X) (hc : ∀ i, CallR (X i) (.type T) r) (hd : ∀ j, CallD K (O j) r F) (hv : bootBuiltins x = some (.type T)) (hm : mg x = none) (ha : A3 K X O (a :: es) ga)
   (hg : ∀ i, Gl (X i) x := by intro i; rfl) (hn : x ≠ "__name__" := by decide) (hdb : (x == ("__debug__" : Str)) = false := by decide) (he : ∀ i, starEach (a :: es) (X i).env = (false, eval a (X i).env) :: starEach es (X i).env := by intro i; rfl) (hpl : ∀ i, (backTo pos (starEach es (X i).env)).any (·.1) = false := by intro i; rfl) :
   E3 K X O (.Call (.Name x p) (a :: es) [] pos) (callDE F ga) := let ⟨_, q, d⟩ := ha; ⟨_, fun i => pe_callTy (hc i) (hg i) (by rw [C.hmg]; exact hm) hv (q i) hn hdb (he i) (hpl i), fun j => ed_callB (hd j) (d j)⟩
end
end L3
namespace L3
open PySem PySem.Spec
open PyProof.Rows hiding St
open L2
theorem bt_len : bootBuiltins "len" = some (.builtin "len") := by decide +kernel
theorem bt_all : bootBuiltins "all" = some (.builtin "all") := by decide +kernel
theorem bt_sorted : bootBuiltins "sorted" = some (.builtin "sorted") := by decide +kernel
theorem bt_repr : bootBuiltins "repr" = some (.builtin "repr") := by decide +kernel
theorem bt_list : bootBuiltins "list" = some (.type "list") := by decide +kernel
theorem bt_tuple : bootBuiltins "tuple" = some (.type "tuple") := by decide +kernel
structure Blt (mg : Str → Option Value) : Prop where
 len : mg "len" = none
 all : mg "all" = none
 any : mg "any" = none
 sorted : mg "sorted" = none
 min : mg "min" = none
 max : mg "max" = none
 repr : mg "repr" = none
 int : mg "int" = none
 list : mg "list" = none
 tuple : mg "tuple" = none
 range : mg "range" = none
 set : mg "set" = none
 isinstance : mg "isinstance" = none
 enumerate : mg "enumerate" = none
 zip : mg "zip" = none
 reversed : mg "reversed" = none
 str : mg "str" = none
 sum : mg "sum" = none
 dict : mg "dict" = none
structure Def3 (P : Program) (w : World) (K : PySem.W.Frag) (mg : Str → Option Value) (base : Heap) (k : Nat) (x : Str) (ps : List Str) (sp : Sp) : Prop where
 ex : ∃ f fd, FnOk P w K mg base CX0 k f fd ps sp ∧ mg x = some (.ref f) ∧ PySem.W.keepIn K (.ref f) = true ∧ Binds K fd ps []
structure Top3 (K : PySem.W.Frag) (mg : Str → Option Value) (x : Str) (st : Stmt) : Prop where
 ex : ∃ f fd, Fun K x x st f fd ∧ mg x = some (.ref f)
structure CIx where
 C : Addr
 s : Shared
 H : Hp
 ex : List Addr
def compX {ι : Type} (X : ι → Cx) (scope : Scope) (N' : List Str) : ι × CIx → Cx := fun p => compCx (X p.1) scope N' p.2.C p.2.s p.2.H p.2.ex
def compO {κ : Type} (O : κ → Ob) : { p : κ × (Addr × List V) // ¬ (O p.1).M p.2.1 } → Ob := fun p => (O p.1.1).plus p.1.2.1 (.lst p.1.2.2)
def F3 {ι κ : Type} (K : PySem.W.Frag) (X : ι → Cx) (O : κ → Ob) (ifs : List Expr) (f : DT) : Prop := ∃ t, (∀ i, PF (X i) ifs t) ∧ ∀ j, TD K (O j) t f
def yesD : DT := fun _ Q => Q true
section
variable {ι κ : Type} {P : Program} {w : World} {K : PySem.W.Frag} {mg : Str → Option Value} {base : Heap} {k : Nat} {X : ι → Cx} {O : κ → Ob} {a b c tg : Expr} {fa fb fc : DE} {pos p : Pos} {es : List Expr} {ga : DA}
theorem Ctx3.comp (C : Ctx3 P w K mg base k X) (scope : Scope) (N' : List Str) : Ctx3 P w K mg base k (compX X scope N') := ⟨fun i => C.hP i.1, fun i => C.hw i.1, fun i => C.hK i.1, fun i => C.hmg i.1, fun i => C.hb i.1, fun i => C.calm i.1, fun i => C.room i.1, fun _ => rfl⟩
theorem e_len (C : Ctx3 P w K mg base k X) (B : Blt mg) (ha : A3 K X O [a] ga) (hg : ∀ i, Gl (X i) "len" := by intro i; rfl) (he : ∀ i, starEach [a] (X i).env = (false, eval a (X i).env) :: starEach [] (X i).env := by intro i; rfl) : E3 K X O (.Call (.Name "len" p) [a] [] pos) (callDE (fn1 lenF) ga) :=
 e_blt C (fun i => by have h := call_len (X := X i); rw [C.hK] at h; exact h) (fun _ => cd_len) bt_len B.len ha hg (by decide) (by decide) he
theorem e_all (C : Ctx3 P w K mg base k X) (B : Blt mg) (ha : A3 K X O [a] ga) (hg : ∀ i, Gl (X i) "all" := by intro i; rfl) (he : ∀ i, starEach [a] (X i).env = (false, eval a (X i).env) :: starEach [] (X i).env := by intro i; rfl) : E3 K X O (.Call (.Name "all" p) [a] [] pos) (callDE (allD false) ga) :=
 e_blt C (fun i => call_allL (C.calm i)) (fun _ => cd_all false) bt_all B.all ha hg (by decide) (by decide) he
theorem e_repr (C : Ctx3 P w K mg base k X) (B : Blt mg) (ha : A3 K X O [a] ga) (hg : ∀ i, Gl (X i) "repr" := by intro i; rfl) (he : ∀ i, starEach [a] (X i).env = (false, eval a (X i).env) :: starEach [] (X i).env := by intro i; rfl) : E3 K X O (.Call (.Name "repr" p) [a] [] pos) (callDE (fn1 reprF) ga) :=
 e_blt C (fun i => by have h := call_reprD (X := X i) (C.room i).gd (C.room i).units; rw [C.hK] at h; exact h) (fun _ => cd_repr) bt_repr B.repr ha hg (by decide) (by decide) he
theorem e_listc (C : Ctx3 P w K mg base k X) (B : Blt mg) (ha : A3 K X O [a] ga) (hg : ∀ i, Gl (X i) "list" := by intro i; rfl) (he : ∀ i, starEach [a] (X i).env = (false, eval a (X i).env) :: starEach [] (X i).env := by intro i; rfl) : E3 K X O (.Call (.Name "list" p) [a] [] pos) (callDE (fn1 listF) ga) :=
 e_bty C (fun i => by have h := call_listU (X := X i) (C.calm i); rw [C.hK] at h; exact h) (fun _ => cd_list) bt_list B.list ha hg (by decide) (by decide) he
theorem e_tuplec (C : Ctx3 P w K mg base k X) (B : Blt mg) (ha : A3 K X O [a] ga) (hg : ∀ i, Gl (X i) "tuple" := by intro i; rfl) (he : ∀ i, starEach [a] (X i).env = (false, eval a (X i).env) :: starEach [] (X i).env := by intro i; rfl) : E3 K X O (.Call (.Name "tuple" p) [a] [] pos) (callDE (fn1 tupF) ga) :=
 e_bty C (fun i => by have h := call_tuple_of (X := X i); rw [C.hK] at h; exact h) (fun _ => cd_tuple) bt_tuple B.tuple ha hg (by decide) (by decide) he
theorem mtr_join {X : Cx} : MtR X "str.join" rJoin := fun pins s σ H x xs v us Q I rx rv h => mt_join pins s σ H x xs v us Q I rx rv h
theorem e_join {apos : Pos} (C : Ctx3 P w K mg base k X) (ho : E3 K X O a fa) (hb : E3 K X O b fb) (hbase : ∀ i, attributeBase a "join" (X i).env (eval a (X i).env) = eval a (X i).env := by intro i; rfl)
   (hfew : ∀ i, ((backTo pos (starEach [b] (X i).env)).all (fun x => !x.1) && (backToKw pos (keywordEach [] (X i).env)).all (fun x => x.1.isSome) && decide (([b] : List Expr).length + ([] : List Keyword).length + (if ([] : List Keyword).isEmpty then 0 else 1) < 30)) = true := by intro i; rfl)
   (hline : (apos.endLine == pos.line) = true := by rfl) (hs : ∀ i, starEach [b] (X i).env = [(false, eval b (X i).env)] := by intro i; rfl) : E3 K X O (.Call (.Attribute a "join" apos) [b] [] pos) (joinD fa fb) :=
 let ⟨_, p1, d1⟩ := ho; let ⟨_, p2, d2⟩ := hb; ⟨tBM K "str" rJoin _ (tCons _ tNil), fun i => by
   have h := pe_bm (apos := apos) (cpos := pos) PySem.F.plainAttrs_str PySem.F.slot_str_join PySem.F.type_str_join (mtr_join (X := X i)) (p1 i) (pa_cons (p2 i) pa_nil (hs i)) (hbase i) (hfew i) hline (hs i)
   rw [C.hK] at h
   exact h, fun j => ed_join (d1 j) (d2 j)⟩
theorem e_call {k' n : Nat} {x : Str} {ps : List Str} {φ : Ob → Prop} {F : List PyData → (R → Prop) → Prop} (C : Ctx3 P w K mg base k X) (D : Def3 P w K mg base k' x ps (spO K φ n F)) (hφ : ∀ j, φ (O j)) (ha : A3 K X O (a :: es) ga) (hk : k' ≤ k := by decide) (hg : ∀ i, Gl (X i) x := by intro i; rfl)
   (hdb : (x == ("__debug__" : Str)) = false := by decide) (he : ∀ i, starEach (a :: es) (X i).env = (false, eval a (X i).env) :: starEach es (X i).env := by intro i; rfl) (hpl : ∀ i, (backTo pos (starEach es (X i).env)).any (·.1) = false := by intro i; rfl) : E3 K X O (.Call (.Name x p) (a :: es) [] pos) (calD n F ga) := by
 obtain ⟨f, fd, G, m, kp, bn⟩ := D.ex
 obtain ⟨t, q, d⟩ := ha
 refine ⟨tCall (spO K φ n F) [] E0 t, fun i => ?_, fun j => ed_call (hφ j) (d j)⟩
 have G' : FnOk (X i).prog (X i).w (X i).K (X i).mg (X i).base CX0 k f fd ps (spO K φ n F) := by rw [C.hP, C.hw, C.hK, C.hmg, C.hb]; exact G.mono hk
 exact pe_call G' (C.room i) (hg i) (by rw [C.hmg]; exact m) (by rw [C.hK]; exact kp) (by rw [C.hK]; exact bn) .nil pass0 (q i) hdb (he i) (hpl i)
theorem e_callO {k' n : Nat} (v : Nat) {x y : Str} {py : Pos} {ps : List Str} {φ : Ob → Prop} {F : List PyData → (R → Prop) → Prop} (C : Ctx3 P w K mg base k X) (D : Def3 P w K mg base k' x ps (spD K φ n F)) (hφ : ∀ j, φ (O j)) (ha : A3 K X O es ga) (hk : k' ≤ k := by decide) (hg : ∀ i, Gl (X i) x := by intro i; rfl)
   (hN : ∀ i, (X i).N[v]? = some y := by intro i; rfl) (hv : ∀ i, Vis (X i).env.scope y := by intro i; first | exact Or.inl rfl | exact Or.inr (Or.inl rfl) | exact Or.inr (Or.inr rfl)) (hd : (y == ("__debug__" : Str)) = false := by decide) (hcd : (y == ("__classdict__" : Str)) = false := by decide)
   (hdb : (x == ("__debug__" : Str)) = false := by decide) (he : ∀ i, starEach (.Name y py :: es) (X i).env = (false, eval (.Name y py) (X i).env) :: starEach es (X i).env := by intro i; rfl) (hpl : ∀ i, (backTo pos (starEach es (X i).env)).any (·.1) = false := by intro i; rfl) :
   E3 K X O (.Call (.Name x p) (.Name y py :: es) [] pos) (calO v n F ga) := by
 obtain ⟨f, fd, G, m, kp, bn⟩ := D.ex
 obtain ⟨t, q, d⟩ := ha
 refine ⟨tCall (spD K φ n F) [] E0 (tCons (tVar v) t), fun i => ?_, fun j => ed_callO (hφ j) (d j)⟩
 have G' : FnOk (X i).prog (X i).w (X i).K (X i).mg (X i).base CX0 k f fd ps (spD K φ n F) := by rw [C.hP, C.hw, C.hK, C.hmg, C.hb]; exact G.mono hk
 exact pe_call G' (C.room i) (hg i) (by rw [C.hmg]; exact m) (by rw [C.hK]; exact kp) (by rw [C.hK]; exact bn) .nil pass0 (pa_cons (pe_var (hN i) (hv i) hd hcd) (q i) (he i)) hdb (he i) (hpl i)
theorem i_list (C : Ctx3 P w K mg base k X) (ha : E3 K X O a fa) : I3 K X O tg a (srcL fa) := let ⟨_, p, d⟩ := ha; ⟨iList K _, fun i => by have h := pi_list (tg := tg) (p i); rw [C.hK] at h; exact h, fun j => src_list (d j)⟩
theorem i_str (ha : E3 K X O a fa) : I3 K X O tg a (srcS fa) := let ⟨_, p, d⟩ := ha; ⟨_, fun i => pi_str (p i), fun j => src_str (d j)⟩
theorem i_r1 (C : Ctx3 P w K mg base k X) (B : Blt mg) (ha : A3 K X O [a] ga) (hg : ∀ i, Gl (X i) "range" := by intro i; rfl) (hs : ∀ i, starEach [a] (X i).env = [(false, eval a (X i).env)] := by intro i; rfl) : I3 K X O tg (.Call (.Name "range" p) [a] [] pos) (srcR1 ga) :=
 let ⟨_, q, d⟩ := ha; ⟨_, fun i => pi_range1 (hg i) (by rw [C.hmg]; exact B.range) (q i) (hs i), fun j => src_rng1 (d j)⟩
theorem j_new {fi : DI} (h : I3 K X O tg a fi) : J3 K X O tg a (newJ fi) := let ⟨_, p, d⟩ := h; ⟨_, p, fun j => srcR_of (d j)⟩
theorem j_var (C : Ctx3 P w K mg base k X) (n : Nat) {x : Str} (hN : ∀ i, (X i).N[n]? = some x := by intro i; rfl) (hv : ∀ i, Vis (X i).env.scope x := by intro i; first | exact Or.inl rfl | exact Or.inr (Or.inl rfl) | exact Or.inr (Or.inr rfl)) (hd : (x == ("__debug__" : Str)) = false := by decide) (hcd : (x == ("__classdict__" : Str)) = false := by decide) :
   J3 K X O tg (.Name x pos) (varJ n) := ⟨iList K (tVar n), fun i => by have h := pi_list (tg := tg) (X := X i) (pe_var (pos := pos) (hN i) (hv i) hd hcd); rw [C.hK] at h; exact h, fun j => srcR_var⟩
theorem g_name {h : Nat} (n : Nat) {x : Str} (hlt : n < h := by decide) (hN : ∀ i, (X i).N.Nodup := by intro i; exact of_decide_eq_true (by kernel_rfl)) (hi : ∀ i, (X i).N[n]? = some x := by intro i; rfl) (hx : ∀ i, Loc (X i).env.scope x := by intro i; first | exact Or.inl rfl | exact Or.inr rfl)
   (hf : ∀ i, (X i).fn x = true ∨ (X i).env.scope.names.lookup x = some .local := by intro i; first | exact .inl rfl | exact .inr rfl) : G3 K X h (.Name x pos) (gN n) := ⟨_, fun i => pg_name (hN i) (hi i) (hx i) (hf i), fun _ => gs_name, fun _ => gr_name, own_name hlt⟩
def Gs3 {ι : Type} (K : PySem.W.Frag) (X : ι → Cx) (h : Nat) (es : List Expr) (is : List Nat) : Prop := ∃ t, (∀ i, PGs (X i) es t) ∧ (∀ O : Ob, GSs K O t is) ∧ (∀ O : Ob, GRs K O t is) ∧ OwnGs h t ∧ MonGs t
theorem gq_nil {h : Nat} : Gs3 K X h [] [] := ⟨_, fun i => pgs_nil, fun _ => gss_nil, fun _ => grs_nil, own_nil, mon_nil⟩
theorem gq_cons {h : Nat} {es : List Expr} {is : List Nat} (n : Nat) {x : Str} (hr : Gs3 K X h es is) (hlt : n < h := by decide) (hN : ∀ i, (X i).N.Nodup := by intro i; exact of_decide_eq_true (by kernel_rfl)) (hi : ∀ i, (X i).N[n]? = some x := by intro i; rfl) (hx : ∀ i, Loc (X i).env.scope x := by intro i; first | exact Or.inl rfl | exact Or.inr rfl)
   (hf : ∀ i, (X i).fn x = true ∨ (X i).env.scope.names.lookup x = some .local := by intro i; first | exact .inl rfl | exact .inr rfl) (hs : ∀ i, (assignEach (.Name x pos :: es) (X i).env).map (·.2) = assign (.Name x pos) (X i).env :: (assignEach es (X i).env).map (·.2) := by intro i; rfl) : Gs3 K X h (.Name x pos :: es) (n :: is) :=
 let ⟨_, p, d1, d2, o, m⟩ := hr; ⟨_, fun i => pgs_cons (pg_name (hN i) (hi i) (hx i) (hf i)) (p i) (hs i), fun O => gss_cons (d1 O), fun O => grs_cons (d2 O), own_cons mon_name m (own_name hlt) o, mon_cons mon_name m⟩
theorem g_tup {h n : Nat} {es : List Expr} {is : List Nat} {j : Nat} (C : Ctx3 P w K mg base k X) (hr : Gs3 K X h es is) (hn : is.length = n := by rfl) (hn2 : ∀ i, (assignEach es (X i).env).length = n := by intro i; rfl) (hst : ∀ i, (assignEach es (X i).env).findIdx? (·.1) = none := by intro i; rfl) : G3 K X h (.Tuple es j pos) (gT is) :=
 let ⟨_, p, d1, d2, o, m⟩ := hr; ⟨_, fun i => by have z := pg_tup (pos := pos) (k := j) (C.calm i) (p i) (hn2 i) (hst i); rw [C.hK] at z; exact z, fun O => gs_tup hn (d1 O), fun O => gr_tup hn (d2 O), own_tup o⟩
theorem f_nil {O' : κ → Ob} : F3 K X O' [] yesD := ⟨_, fun i => pf_nil, fun j σ H ρ Q Qd S h k => k true H (.refl _ _) h⟩
theorem f_one {ft : DT} (h : T3 K X O c ft) : F3 K X O [c] ft := let ⟨_, p, d⟩ := h; ⟨_, fun i => pf_one (p i), d⟩
theorem e_comp {elt iter : Expr} {ifs : List Expr} {scope : Scope} {fi : DI} {g : DG} {ft : DT} {fe : DE} (h : Nat) (N' : List Str) (C : Ctx3 P w K mg base k X) (S : ∀ i, ScopeOk h N' (X i).N scope (X i).env.scope) (hs : I3 K X O tg iter fi)
   (hg : G3 K (compX X scope N') h tg g) (hf : F3 K (compX X scope N') (compO O) ifs ft) (he : E3 K (compX X scope N') (compO O) elt fe) (hset : ∀ i x, foldedSetIterable iter (X i).env x = pure x := by intro _ _; rfl) :
   E3 K X O (.ListComp elt [⟨tg, iter, ifs, 0⟩] scope pos) (compD h fi g ft fe) := by
 obtain ⟨ti, p1, d1⟩ := hs
 obtain ⟨tg', p2, d2, _, ow⟩ := hg
 obtain ⟨tf, p3, d3⟩ := hf
 obtain ⟨te, p4, d4⟩ := he
 exact ⟨_, fun i => pe_comp h (S i) (C.calm i) (p1 i) (fun c s H ex => p2 (i, ⟨c, s, H, ex⟩)) ow (fun c s H ex => p3 (i, ⟨c, s, H, ex⟩)) (fun c s H ex => p4 (i, ⟨c, s, H, ex⟩)) (hset i), fun j => ed_comp (d1 j) d2 (fun D xs nm => d3 ⟨(j, (D, xs)), nm⟩) fun D xs nm => d4 ⟨(j, (D, xs)), nm⟩⟩
variable {st : Stmt} {sts : List Stmt} {g1 g2 : DS} {ft : DT}
theorem ss_nil : Ss3 K X O [] (fun Dd ρ => Dd.nx ρ) := ⟨_, fun i => pss_nil, fun j => sd_next⟩
theorem ss_one (h : S3 K X O st g1) : Ss3 K X O [st] g1 := let ⟨_, p, d⟩ := h; ⟨_, fun i => pss_one (p i), d⟩
theorem ss_cons (h : S3 K X O st g1) (h' : Ss3 K X O sts g2) : Ss3 K X O (st :: sts) (seqD g1 g2) := let ⟨_, p, d⟩ := h; let ⟨_, p2, d2⟩ := h'; ⟨_, fun i => pss_cons (p i) (p2 i), fun j => sd_seq (d j) (d2 j)⟩
theorem s_ret (ha : E3 K X O a fa) : S3 K X O (.Return (some a) pos) (retS fa) := let ⟨_, p, d⟩ := ha; ⟨_, fun i => ps_ret (p i), fun j => sd_ret (d j)⟩
theorem s_retO (n : Nat) {x : Str} {px : Pos} (hN : ∀ i, (X i).N[n]? = some x := by intro i; rfl) (hv : ∀ i, Vis (X i).env.scope x := by intro i; first | exact Or.inl rfl | exact Or.inr (Or.inl rfl) | exact Or.inr (Or.inr rfl)) (hd : (x == ("__debug__" : Str)) = false := by decide) (hcd : (x == ("__classdict__" : Str)) = false := by decide) :
   S3 K X O (.Return (some (.Name x px)) pos) (retO n) := ⟨_, fun i => ps_ret (pe_var (hN i) (hv i) hd hcd), fun j => sd_retOwn⟩
theorem s_if {sa sb : List Stmt} (hc : T3 K X O c ft) (h : Ss3 K X O sa g1) (h' : Ss3 K X O sb g2) : S3 K X O (.If c sa sb pos) (ifS ft g1 g2) := let ⟨_, p, d⟩ := hc; let ⟨_, p1, d1⟩ := h; let ⟨_, p2, d2⟩ := h'; ⟨_, fun i => ps_if (p i) (p1 i) (p2 i), fun j => sd_if (d j) (d1 j) (d2 j)⟩
theorem s_set (n : Nat) {x : Str} {px : Pos} (ha : E3 K X O a fa) (hN : ∀ i, (X i).N.Nodup := by intro i; exact of_decide_eq_true (by kernel_rfl)) (hi : ∀ i, (X i).N[n]? = some x := by intro i; rfl) (hx : ∀ i, Loc (X i).env.scope x := by intro i; first | exact Or.inl rfl | exact Or.inr rfl)
   (hs : ∀ i, swapsWith a (some (.Name x px)) pos.line (X i).env = pure false := by intro i; rfl) (hf : ∀ i, (X i).fn x = true ∨ (X i).env.scope.names.lookup x = some .local := by intro i; first | exact .inl rfl | exact .inr rfl) : S3 K X O (.Assign [.Name x px] a pos) (asgS n fa) :=
 let ⟨_, p, d⟩ := ha; ⟨_, fun i => ps_set (hN i) (hi i) (hx i) (p i) (hs i) (hf i), fun j => sd_asg (d j)⟩
theorem mtr_append {X : Cx} : MtR X "list.append" rAppend := fun pins s σ H x xs v us Q I rx rv h => mt_append pins s σ H x xs v us Q I rx rv h
theorem s_app (n : Nat) {x : Str} {px apos cpos : Pos} (C : Ctx3 P w K mg base k X) (hb : E3 K X O b fb) (hN : ∀ i, (X i).N[n]? = some x := by intro i; rfl) (hv : ∀ i, Vis (X i).env.scope x := by intro i; first | exact Or.inl rfl | exact Or.inr (Or.inl rfl) | exact Or.inr (Or.inr rfl)) (hd : (x == ("__debug__" : Str)) = false := by decide) (hcd : (x == ("__classdict__" : Str)) = false := by decide)
   (hbase : ∀ i, attributeBase (.Name x px) "append" (X i).env (eval (.Name x px) (X i).env) = eval (.Name x px) (X i).env := by intro i; rfl)
   (hfew : ∀ i, ((backTo cpos (starEach [b] (X i).env)).all (fun x => !x.1) && (backToKw cpos (keywordEach [] (X i).env)).all (fun x => x.1.isSome) && decide (([b] : List Expr).length + ([] : List Keyword).length + (if ([] : List Keyword).isEmpty then 0 else 1) < 30)) = true := by intro i; rfl)
   (hline : (apos.endLine == cpos.line) = true := by rfl) (hs : ∀ i, starEach [b] (X i).env = [(false, eval b (X i).env)] := by intro i; rfl) (hsw : ∀ i, swapsWith (.Call (.Attribute (.Name x px) "append" apos) [b] [] cpos) none pos.line (X i).env = pure false := by intro i; rfl) :
   S3 K X O (.Expr (.Call (.Attribute (.Name x px) "append" apos) [b] [] cpos) pos) (appS n fb) := let ⟨_, p2, d2⟩ := hb;
 ⟨tDrop (tBM K "list" rAppend (tVar n) (tCons _ tNil)), fun i => by
   have h := pe_bm (apos := apos) (cpos := cpos) PySem.F.plainAttrs_list PySem.F.slot_list_append PySem.F.type_list_append (mtr_append (X := X i)) (pe_var (pos := px) (hN i) (hv i) hd hcd) (pa_cons (p2 i) pa_nil (hs i)) (hbase i) (hfew i) hline (hs i)
   rw [C.hK] at h
   exact ps_expr h (hsw i), fun j => sd_append (d2 j)⟩
theorem passes_never {X : Cx} (h : X.xe = fun _ _ => False) : PassesOwn (model X.prog X.w) X.A X.env X.xe := by rw [h]; exact PassesOwn.never
theorem s_for {iter : Expr} {body : List Stmt} {fj : DJ} {g : DG} {hh : Nat} (C : Ctx3 P w K mg base k X) (hi : J3 K X O tg iter fj) (hg : G3 K X hh tg g) (hb : Ss3 K X O body g1) (hs : ∀ i x, foldedSetIterable iter (X i).env x = pure x := by intro _ _; rfl) : S3 K X O (.For tg iter body [] pos) (forS fj g g1) := by
 obtain ⟨ti, p1, d1⟩ := hi
 obtain ⟨tg', p2, _, d2, _⟩ := hg
 obtain ⟨tb, p3, d3⟩ := hb
 exact ⟨_, fun i => ps_for (passes_never (C.xe i)) (C.calm i) (p1 i) (p2 i) (p3 i) (hs i), fun j => sd_for (d1 j) (d2 (O j)) (d3 j)⟩
end
section
variable {P : Program} {w : World} {K : PySem.W.Frag} {mg : Str → Option Value} {base : Heap} {k n : Nat} {x : Str} {st : Stmt} {N ps : List Str} {φ : Ob → Prop} {F : List PyData → (R → Prop) → Prop}
abbrev bodyX (P : Program) (w : World) (K : PySem.W.Frag) (mg : Str → Option Value) (base : Heap) (N : List Str) (x : Str) (sc : Scope) (f : Addr) (cdv : Value) (A : Around) (outer : List Env) (s : Shared) (H : Hp) (E : XK) : Unit → Cx := fun _ => (cxOf CX0 P w K mg base N x sc f cdv A outer s H E).nox
theorem ctx_body {f : Addr} {cdv : Value} {A : Around} {outer : List Env} {s : Shared} {H : Hp} {E : XK} {sc : Scope} (hr : Room k (A.deeper (envOfC x sc s.heap.objs.size f cdv))) : Ctx3 P w K mg base k (bodyX P w K mg base N x sc f cdv A outer s H E) :=
 ⟨fun _ => rfl, fun _ => rfl, fun _ => rfl, fun _ => rfl, fun _ => rfl, fun _ => rfl, fun _ => hr, fun _ => rfl⟩
theorem mk_O (T : Top3 K mg x st) (S : FnScope N ps (defScope st)) (hb : ∀ (kV doc pm : Value) (an : Option Addr) (cdv ct : Value) (us : List Value), us.length = ps.length → bindArgs (PySem.W.fnOf x x (defArgs st) (defBody st) (defScope st) .none kV doc pm an cdv ct) ⟨us, []⟩ = pure (ps.zip us)) (hn : ps.length = n)
   (body : ∀ (f : Addr) (cdv : Value) (A : Around) (outer : List Env) (s : Shared) (H : Hp) (E : XK) (O : Ob), φ O → Ctx3 P w K mg base k (bodyX P w K mg base N x (defScope st) f cdv A outer s H E) →
     ∃ g, Ss3 K (bodyX P w K mg base N x (defScope st) f cdv A outer s H E) (fun _ : Unit => O) (defBody st) g ∧ ∀ ds Qr, ds.length = n → F ds Qr → g { nx := fun _ => Qr (.o .none), rt := Qr } (dstart N (ds.map .im))) : Def3 P w K mg base (k + 1) x ps (spO K φ n F) := by
 obtain ⟨f, fd, Fu, m⟩ := T.ex
 refine ⟨f, fd, Fu.ok S (spO_len hn) (fun cdv A outer s H vs Q E hr h => ?_), m, Fu.kp, Fu.binds hb⟩
 obtain ⟨O, ds, Qr, ok, hφ, p, hl, is, q, kk⟩ := h
 obtain ⟨g, ⟨t, h1, h2⟩, h3⟩ := body f cdv A outer s H E O hφ (ctx_body hr)
 exact ⟨t, h1 (), run_O (h2 ()) ok p is (h3 ds Qr hl q) kk⟩
theorem mk_D (T : Top3 K mg x st) (S : FnScope N ps (defScope st)) (hb : ∀ (kV doc pm : Value) (an : Option Addr) (cdv ct : Value) (us : List Value), us.length = ps.length → bindArgs (PySem.W.fnOf x x (defArgs st) (defBody st) (defScope st) .none kV doc pm an cdv ct) ⟨us, []⟩ = pure (ps.zip us)) (hn : ps.length = n + 1)
   (body : ∀ (f : Addr) (cdv : Value) (A : Around) (outer : List Env) (s : Shared) (H : Hp) (E : XK) (O : Ob), φ O → Ctx3 P w K mg base k (bodyX P w K mg base N x (defScope st) f cdv A outer s H E) →
     ∃ g, Ss3 K (bodyX P w K mg base N x (defScope st) f cdv A outer s H E) (fun _ : Unit => O) (defBody st) g ∧ ∀ ds Qr, ds.length = n → F ds Qr → g { nx := fun _ => Qr (.o .none), rt := Qr } (dstart N (.ob :: ds.map .im))) : Def3 P w K mg base (k + 1) x ps (spD K φ n F) := by
 obtain ⟨f, fd, Fu, m⟩ := T.ex
 refine ⟨f, fd, Fu.ok S (spD_len hn) (fun cdv A outer s H vs Q E hr h => ?_), m, Fu.kp, Fu.binds hb⟩
 obtain ⟨O, ds, ws, Qr, ok, hφ, p, hl, rfl, is, q, kk⟩ := h
 obtain ⟨g, ⟨t, h1, h2⟩, h3⟩ := body f cdv A outer s H E O hφ (ctx_body hr)
 exact ⟨t, h1 (), run_D (h2 ()) ok p is (h3 ds Qr hl q) kk⟩
end
end L3
namespace L3
open PySem PySem.Spec
open PyProof.Rows hiding St
open L2
structure PotStp (a l : Addr) (H H' : Hp) : Prop where
 oth : ∀ b, b ≠ a → b ≠ l → H' b = H b
theorem PotStp.refl (a l : Addr) (H : Hp) : PotStp a l H H := ⟨fun _ _ _ => rfl⟩
theorem PotStp.trans {a l : Addr} {H H1 H2 : Hp} (x : PotStp a l H H1) (y : PotStp a l H1 H2) : PotStp a l H H2 := ⟨fun b h1 h2 => (y.oth b h1 h2).trans (x.oth b h1 h2)⟩
theorem PotStp.upA {a l : Addr} {H : Hp} (o : HO) : PotStp a l H (upd H a o) := ⟨fun b h1 _ => upd_ne h1⟩
theorem PotStp.upL {a l : Addr} {H : Hp} (o : HO) : PotStp a l H (upd H l o) := ⟨fun b _ h2 => upd_ne h2⟩
abbrev lenR (K : PySem.W.Frag) : List V → Hp → VK → Prop := fun xs H Q => ∃ x n, xs = [x] ∧ LenV K x H n ∧ Q (.int n) H
def drawF : List PyData → (R → Prop) → Prop := fun ds Q => ∃ m : Int, ds = [.int m] ∧ 0 < m ∧ m < 1073741824 ∧ ∀ k, 0 ≤ k → k < m → Q (.o (.int k))
theorem mtr_popAt {X : Cx} : MtR X "list.pop" rPopAt := fun pins s σ H x xs v us Q I rx rv h => mt_popAt pins s σ H x xs v us Q I rx rv h
theorem cutV_map (ns : List Int) (lo hi : Option Int) : cutV (ns.map V.int) lo hi = (cutL ns lo hi).map V.int := by
 unfold cutV cutL
 rw [List.length_map, List.map_take, List.map_drop]
def abc : List Nat := (List.range 26).map (· + 97)
def isLow (c : Nat) : Prop := 97 ≤ c ∧ c < 123
def lettersF : List PyData → (R → Prop) → Prop := fun ds Q => ∃ m : Int, ds = [.int m] ∧ 0 ≤ m ∧ m ≤ 26 ∧ ∀ w : List Nat, (w.length : Int) = m → (∀ c ∈ w, isLow c) → w.Pairwise (· < ·) → Q (.o (.str (tx w)))
def tLetters (K : PySem.W.Frag) (drawSp : Sp) : TS :=
 tSeq (tAsg (tCB rListS (tCons (tC (.str "abcdefghijklmnopqrstuvwxyz")) tNil)) (gName 2))
 (tRet (tBM K "str" rJoin (tC (.str "")) (tCons (tCB rSortS (tCons (tComp 1 (iRng1 (tCons (tVar 1) tNil)) (gName 0) tYes (tBM K "list" rPopAt (tVar 3) (tCons (tCall drawSp [] E0 (tCons (tVar 1) (tCons (tCB (lenR K) (tCons (tVar 3) tNil)) tNil))) tNil))) tNil)) tNil)))
theorem join_fold : ∀ (l : List Nat) (acc : Array Nat), (l.map sg).foldl (fun acc p => acc ++ (Str.ofString "").cps ++ p.cps) acc = acc ++ l.toArray
 | [], acc => by simp
 | c :: r, acc => by
   rw [List.map_cons, List.foldl_cons, join_fold r]
   have e : (Str.ofString "").cps = #[] := by decide +kernel
   rw [e]
   apply Array.toList_inj.mp
   simp [sg]
theorem join_sg (w : List Nat) : Txt.join "" (w.map sg) = tx w := by
 cases w with
 | nil => decide +kernel
 | cons c r =>
   show Builtin.Str.glued (Str.ofString "") (sg c :: r.map sg) = tx (c :: r)
   unfold Builtin.Str.glued
   show (⟨(r.map sg).foldl _ (sg c).cps⟩ : Str) = _
   rw [join_fold]
   unfold tx sg
   congr 1
   apply Array.toList_inj.mp
   simp
theorem sg_len (c : Nat) : (sg c).length = 1 := rfl
theorem sum_sg (w : List Nat) : ((w.map sg).map (·.length)).sum = w.length := by
 induction w with
 | nil => rfl
 | cons c r ih => rw [List.map_cons, List.map_cons, List.sum_cons, ih, sg_len, List.length_cons]; omega
theorem unsg : ∀ {zs : List Str}, (∀ z ∈ zs, ∃ c, z = sg c ∧ isLow c) → ∃ w : List Nat, zs = w.map sg ∧ ∀ c ∈ w, isLow c
 | [], _ => ⟨[], rfl, by simp⟩
 | z :: zs, h => by
   obtain ⟨c, rfl, hc⟩ := h z List.mem_cons_self
   obtain ⟨w, rfl, hw⟩ := unsg (zs := zs) fun y hy => h y (List.mem_cons_of_mem _ hy)
   exact ⟨c :: w, rfl, fun d hd => by rcases List.mem_cons.mp hd with e | e; (rw [e]; exact hc); exact hw d e⟩
theorem erase_map {α β : Type} (f : α → β) : ∀ (l : List α) (i : Nat), (l.map f).eraseIdx i = (l.eraseIdx i).map f
 | [], _ => rfl
 | _ :: _, 0 => rfl
 | a :: l, i + 1 => by rw [List.map_cons, List.eraseIdx_cons_succ, List.eraseIdx_cons_succ, List.map_cons, erase_map f l i]
theorem eraseIdx_mem {α : Type} {l : List α} {i : Nat} {x : α} (h : x ∈ l.eraseIdx i) : x ∈ l := List.mem_of_mem_eraseIdx h
theorem perm_pick {α : Type} : ∀ {l : List α} {i : Nat} (h : i < l.length), ([l[i]] ++ l.eraseIdx i).Perm l
 | a :: l, 0, _ => .refl _
 | a :: l, i + 1, h => by
   have h' : i < l.length := by simpa using h
   have ih := perm_pick (l := l) (i := i) h'
   show (l[i] :: a :: l.eraseIdx i).Perm (a :: l)
   exact (List.Perm.swap a l[i] _).trans (List.Perm.cons a ih)
theorem sg_inj {a b : Nat} (h : sg a = sg b) : a = b := by
 have := congrArg (fun x : Str => x.cps.toList) h
 simpa [sg] using this
theorem risingS_inc : ∀ {w : List Nat} {x : Nat}, risingS (sg x) (w.map sg) = true → (∀ c ∈ w, x ≤ c) ∧ w.Pairwise (· ≤ ·)
 | [], _, _ => ⟨fun _ h => (nomatch h), .nil⟩
 | y :: r, x, h => by
   have h : (!(decide (y < x) || (y == x && false)) && risingS (sg y) (r.map sg)) = true := h
   rw [Bool.and_false, Bool.or_false, Bool.and_eq_true, Bool.not_eq_true', decide_eq_false_iff_not] at h
   obtain ⟨h1, h2⟩ := risingS_inc (w := r) (x := y) h.2
   refine ⟨fun c hc => ?_, .cons h1 h2⟩
   rcases List.mem_cons.mp hc with rfl | hc
   · omega
   · have := h1 c hc
     omega
theorem sorted_inc : ∀ {w : List Nat}, sortedS (w.map sg) = true → w.Nodup → w.Pairwise (· < ·)
 | [], _, _ => .nil
 | x :: r, h, hn => by
   obtain ⟨h1, h2⟩ := risingS_inc (w := r) (x := x) h
   obtain ⟨n1, n2⟩ := List.nodup_cons.mp hn
   refine .cons (fun c hc => Nat.lt_of_le_of_ne (h1 c hc) fun e => n1 (e ▸ hc)) ?_
   exact (List.Pairwise.and h2 n2).imp fun ⟨a, b⟩ => Nat.lt_of_le_of_ne a b
end L3
namespace L3
open PySem PySem.Spec
open PyProof.Rows hiding St
open L2
theorem eqF_str {neg : Bool} {x y : Str} (hx : PyData.strOk x = true) (hy : PyData.strOk y = true) : eqF neg (.str x) (.str y) = some (.o (.bool (if neg then !(x == y) else x == y))) := by
 unfold eqF
 rw [if_pos (by simp [okD, PyData.canLay0, PyData.depth, hx, hy])]
 rfl
theorem tx_inj {v w : List Nat} (h : tx v = tx w) : v = w := by
 have := congrArg (fun x : Str => x.cps.toList) h
 simpa [tx] using this
theorem tx_beq (v w : List Nat) : (tx v == tx w) = decide (v = w) := by
 by_cases e : v = w
 · subst e; simp
 · rw [decide_eq_false e]
   exact beq_eq_false_iff_ne.mpr fun h => e (tx_inj h)
theorem eqF_int {neg : Bool} {i j : Int} : eqF neg (.int i) (.int j) = some (.o (.bool (if neg then !decide (i = j) else decide (i = j)))) := by
 unfold eqF
 have e : (okD (PyData.int i) && (PyData.int j).canLay0) = true := by simp [okD, PyData.canLay0, PyData.depth]
 rw [if_pos e]
 rfl
theorem comp_of {α : Type} {enc : α → PyData} {i : Nat} {fe : DE} {ρ : DSt} {Q : List PyData → Prop} {as : List α} {e : α → PyData} {h : Nat} (step : ∀ a ∈ as, ∀ P : R → Prop, (∀ r, r.d = e a → P r) → fe ((List.replicate h none ++ ρ).set i (some (.im (enc a)))) P) (hz : as.length ≤ sizeLine) (q : Q (as.map e)) :
   compGo h (gN i) yesD fe ρ Q (as.map enc) [] := by
 have key : ∀ (as : List α) (acc : List PyData), (∀ a ∈ as, ∀ P : R → Prop, (∀ r, r.d = e a → P r) → fe ((List.replicate h none ++ ρ).set i (some (.im (enc a)))) P) → acc.length + as.length ≤ sizeLine → Q (acc ++ as.map e) → compGo h (gN i) yesD fe ρ Q (as.map enc) acc := by
   intro as
   induction as with
   | nil => intro acc _ _ q; show Q acc; simpa using q
   | cons a as ih =>
     intro acc st hz q
     rw [List.length_cons] at hz
     refine st a List.mem_cons_self _ fun r hr => ?_
     refine ⟨by omega, ?_⟩
     rw [hr]
     exact ih (acc ++ [e a]) (fun a' ha => st a' (List.mem_cons_of_mem _ ha)) (by rw [List.length_append]; simp; omega) (by simpa using q)
 exact key as [] step (by simpa using hz) (by simpa using q)
theorem forGo_rev {g : DG} {gb : DS} {Dd : DEnds} {ds : List PyData} {ρ : DSt} (J : Nat → DSt → Prop) (h0 : J 0 ρ) (fin : ∀ ρ, J ds.length ρ → Dd.nx ρ)
   (step : ∀ (j : Nat) d ρ (N : DSt → Prop), ds[j]? = some d → (∀ ρ', J (j + 1) ρ' → N ρ') → J j ρ → flat d = true ∧ g d ρ fun ρ2 => gb { Dd with nx := N, ct := N, bk := Dd.nx } ρ2) : forGo g gb Dd ds ρ := by
 have key : ∀ (k j : Nat), j + k = ds.length → ∀ ρ, J j ρ → forGo g gb Dd (ds.drop j) ρ := by
   intro k
   induction k with
   | zero =>
     intro j hj ρ h
     rw [List.drop_eq_nil_of_le (by omega)]
     have e : j = ds.length := by omega
     rw [e] at h
     exact fin ρ h
   | succ k ih =>
     intro j hj ρ h
     have hlt : j < ds.length := by omega
     rw [List.drop_eq_getElem_cons hlt]
     exact step j ds[j] ρ _ (List.getElem?_eq_getElem hlt) (fun ρ' h' => ih (j + 1) (by omega) ρ' h') h
 have := key ds.length 0 (by omega) ρ h0
 simpa using this
theorem numsD_len (lo : Int) (n : Nat) : (numsD lo n).length = n := by simp [numsD]
theorem sgs_len (w : List Nat) : (sgs (tx w)).length = w.length := by simp [sgs, tx]
theorem sgs_get {w : List Nat} {j : Nat} {d : PyData} (h : (sgs (tx w))[j]? = some d) : ∃ c, w[j]? = some c ∧ d = .str (sg c) := by
 unfold sgs at h
 rw [tx_toList, List.getElem?_map] at h
 obtain ⟨c, hc, rfl⟩ := Option.map_eq_some_iff.mp h
 exact ⟨c, hc, rfl⟩
theorem flats_map {α : Type} {f : α → PyData} (h : ∀ a, flat (f a) = true) : ∀ l : List α, flats (l.map f) = true
 | [] => rfl
 | a :: l => by rw [List.map_cons, flats, h a, flats_map h l]; rfl
end L3
namespace L3
open PySem PySem.Spec
open PyProof.Rows hiding St
open L2
abbrev LowW (w : List Nat) : Prop := ∀ c ∈ w, isLow c
theorem tx_len (w : List Nat) : (tx w).length = w.length := by simp [tx, Str.length]
theorem len_tx {w : List Nat} (h : w.length ≤ 16777216) : lenF [.str (tx w)] = some (.o (.int w.length)) := by
 unfold lenF
 dsimp only
 rw [tx_len, if_pos (by rw [sizeLine_eq]; exact h)]
theorem idx_tx {w : List Nat} {k : Nat} (h : k < w.length) (hl : w.length ≤ 16777216) : idxF (.str (tx w)) (.int (k : Nat)) = some (.o (.str (tx [w[k]]))) := by
 unfold idxF
 dsimp only
 rw [tx_len, if_pos (by rw [sizeLine_eq]; exact hl), tx_toList, atI_nat (v := w[k]) (by rw [List.getElem?_eq_getElem h])]
 rfl
theorem add_tx {v w : List Nat} (h : v.length + w.length ≤ 16777216) : addF (.str (tx v)) (.str (tx w)) = some (.o (.str (tx (v ++ w)))) := by
 unfold addF
 dsimp only
 rw [tx_len, tx_len, if_pos (by rw [sizeLine_eq]; exact h)]
 have e : tx v ++ tx w = tx (v ++ w) := by
   show Str.mk _ = Str.mk _
   simp [tx]
 rw [e]
theorem sIx_nat (n d m : Nat) : HT.sIx n d (some (m : Int)) = min m n := by
 have := sIx_clip n d (m : Int)
 rw [if_neg (by omega)] at this
 omega
theorem sIx_none (n d : Nat) : HT.sIx n d none = d := rfl
theorem cut_to {α : Type} (xs : List α) (m : Nat) : cutL xs none (some (m : Int)) = xs.take m := by
 unfold cutL
 rw [sIx_nat, sIx_none, List.drop_zero, Nat.sub_zero, List.take_eq_take_min, Nat.min_assoc, Nat.min_self, ← List.take_eq_take_min]
theorem sl_tx {v : List Nat} {lo hi : Option Int} (h : v.length ≤ 16777216) : slcF lo hi (.str (tx v)) = some (.o (.str (tx (cutL v lo hi)))) := by
 unfold slcF
 dsimp only
 rw [tx_len, tx_toList, if_pos (by rw [sizeLine_eq]; exact h)]
theorem draw_k {o : Nat} {m : Int} {ρ : DSt} {Q : R → Prop} (hρ : ρ[o]? = some (some .ob)) (h0 : 0 < m) (h1 : m < 1073741824) (q : ∀ k : Nat, (k : Int) < m → Q (.o (.int (k : Nat)))) : calO o 1 drawF (aCons (cD (.int m)) aNil) ρ Q := by
 refine ⟨hρ, rfl, m, rfl, h0, h1, fun k k0 k1 => ?_⟩
 have := q k.toNat (by omega)
 rwa [show ((k.toNat : Nat) : Int) = k by omega] at this
theorem draw_len {o i : Nat} {d : PyData} {n : Nat} {ρ : DSt} {Q : R → Prop} (hρ : ρ[o]? = some (some .ob)) {v : DV} (hi : ρ[i]? = some (some v)) (hv : seeR v = some d) (hl : lenF [d] = some (.o (.int (n : Nat)))) (h0 : 0 < n) (h1 : n < 1073741824) (q : ∀ k : Nat, k < n → Q (.o (.int (k : Nat)))) :
   calO o 1 drawF (aCons (callDE (fn1 lenF) (aCons (vD i) aNil)) aNil) ρ Q := by
 refine ⟨hρ, _, _, hi, hv, _, hl, rfl, _, rfl, by omega, by omega, fun k k0 k1 => ?_⟩
 have := q k.toNat (by omega)
 rwa [show ((k.toNat : Nat) : Int) = k by omega] at this
theorem draw_len1 {o i : Nat} {d : PyData} {n : Nat} {ρ : DSt} {Q : R → Prop} (hρ : ρ[o]? = some (some .ob)) {v : DV} (hi : ρ[i]? = some (some v)) (hv : seeR v = some d) (hl : lenF [d] = some (.o (.int (n : Nat)))) (h1 : n < 1073741823) (q : ∀ k : Nat, k ≤ n → Q (.o (.int (k : Nat)))) :
   calO o 1 drawF (aCons (opDE (fn2 addF) (callDE (fn1 lenF) (aCons (vD i) aNil)) (cD (.int 1))) aNil) ρ Q := by
 refine ⟨hρ, _, _, hi, hv, _, hl, _, rfl, rfl, _, rfl, by omega, by omega, fun k k0 k1 => ?_⟩
 have := q k.toNat (by omega)
 rwa [show ((k.toNat : Nat) : Int) = k by omega] at this
theorem at_letter {o i : Nat} {ls : List Nat} {ρ : DSt} {Q : R → Prop} (hρ : ρ[o]? = some (some .ob)) (hi : ρ[i]? = some (some (.im (.str (tx ls))))) (hn : ls ≠ []) (hl : ls.length ≤ 1000) (q : ∀ c ∈ ls, Q (.o (.str (tx [c])))) :
   opDE (fn2 idxF) (vD i) (calO o 1 drawF (aCons (callDE (fn1 lenF) (aCons (vD i) aNil)) aNil)) ρ Q := by
 have h0 : 0 < ls.length := List.length_pos_iff.mpr hn
 refine ⟨_, _, hi, rfl, draw_len hρ hi rfl (len_tx (by omega)) h0 (by omega) fun k hk => ⟨_, idx_tx hk (by omega), q _ (List.getElem_mem hk)⟩⟩
theorem comp_gen {α β : Type} {enc : α → PyData} {enc2 : β → PyData} {good : β → Prop} {i h : Nat} {ft : DT} {fe : DE} {ρ : DSt} {Q : List PyData → Prop} {as : List α}
   (step : ∀ a ∈ as, ∀ (Pn : Prop) (Py : PyData → Prop), Pn → (∀ b, good b → Py (enc2 b)) → ft ((List.replicate h none ++ ρ).set i (some (.im (enc a)))) fun t => if t = true then fe ((List.replicate h none ++ ρ).set i (some (.im (enc a)))) (fun r => Py r.d) else Pn)
   (hz : as.length ≤ 1000) (q : ∀ bs : List β, (∀ b ∈ bs, good b) → bs.length ≤ as.length → Q (bs.map enc2)) : compGo h (gN i) ft fe ρ Q (as.map enc) [] := by
 have sz := sizeLine_eq
 have key : ∀ (l : List α) (bs : List β), (∀ a ∈ l, a ∈ as) → (∀ b ∈ bs, good b) → bs.length + l.length ≤ as.length → compGo h (gN i) ft fe ρ Q (l.map enc) (bs.map enc2) := by
   intro l
   induction l with
   | nil => intro bs _ hb hl; exact q bs hb hl
   | cons a l ih =>
     intro bs hs hb hl
     rw [List.length_cons] at hl
     refine step a (hs a List.mem_cons_self) _ (fun d => (bs.map enc2).length < sizeLine ∧ compGo h (gN i) ft fe ρ Q (l.map enc) (bs.map enc2 ++ [d])) (ih bs (fun x hx => hs x (List.mem_cons_of_mem _ hx)) hb (by omega)) fun b gb => ⟨by rw [List.length_map]; omega, ?_⟩
     have := ih (bs ++ [b]) (fun x hx => hs x (List.mem_cons_of_mem _ hx)) (fun x hx => by rcases List.mem_append.mp hx with hx | hx; (exact hb x hx); (rw [List.mem_singleton.mp hx]; exact gb)) (by rw [List.length_append]; simp; omega)
     rwa [List.map_append] at this
 exact key as [] (fun _ h => h) (by simp) (by simp)
theorem join_ys (ws : List Nat) (hl : ws.length ≤ 1000) : ∃ ys : List Str, PyData.list (ws.map fun c => .str (tx [c])) = .list (ys.map .str) ∧ (ys.map (·.length)).sum + ys.length * (Str.ofString "").length ≤ 16777216 ∧ Txt.join "" ys = tx ws := by
 refine ⟨ws.map sg, by rw [List.map_map]; rfl, ?_, join_sg ws⟩
 have e0 : (Str.ofString "").length = 0 := by decide +kernel
 rw [sum_sg, e0]
 omega
theorem seq_mid {g k : DS} {Dd : DEnds} {ρ : DSt} (J : DSt → Prop) (hg : ∀ N : DSt → Prop, (∀ ρ, J ρ → N ρ) → g { Dd with nx := N } ρ) (hk : ∀ ρ, J ρ → k Dd ρ) : seqD g k Dd ρ := hg (k Dd) hk
theorem low_sub {w v : List Nat} (h : LowW w) (hs : ∀ c ∈ v, c ∈ w) : LowW v := fun c hc => h c (hs c hc)
def spLaw (K : PySem.W.Frag) : Sp := fun vs H Q _ => ∃ (a : Addr) (ns : List Int), vs = [.ref a] ∧ SqL K H a (ns.map V.int) ∧ ns.length ≤ 63 ∧ ∀ H', Q (.bl true) H'
end L3
namespace L3
section
open PySem PySem.Builtin PySem.Builtin.Str
def sOk (x : PySem.Str) : Prop := ∀ c ∈ x.cps.toList, c < 0x110000
theorem strOk_iff {x : PySem.Str} : PyData.strOk x = true ↔ sOk x := by
 unfold PyData.strOk sOk
 rw [Array.all_eq_true']
 simp
theorem sOk_app {x y : PySem.Str} (hx : sOk x) (hy : sOk y) : sOk (x ++ y) := by
 intro c hc
 have e : (x ++ y).cps.toList = x.cps.toList ++ y.cps.toList := by
   show (x.cps ++ y.cps).toList = _
   simp
 rw [e] at hc
 rcases List.mem_append.mp hc with hc | hc
 · exact hx c hc
 · exact hy c hc
theorem char_lt (c : Char) : c.toNat < 0x110000 := by
 have := c.valid
 rcases this with h | h
 · exact Nat.lt_trans h (by decide)
 · exact h.2
theorem sOk_of (s : String) : sOk (PySem.Str.ofString s) := by
 intro c hc
 have : c ∈ (s.toList.map Char.toNat) := by rw [PySem.Str.ofString_eq_toList] at hc; simpa using hc
 obtain ⟨d, _, rfl⟩ := List.mem_map.mp this
 exact char_lt d
theorem sOk_join {sep : PySem.Str} (hs : sOk sep) : ∀ {l : List PySem.Str}, (∀ x ∈ l, sOk x) → sOk (PySem.Str.join sep l)
 | [], _ => fun c hc => by cases hc
 | [x], h => h x (by simp)
 | x :: y :: r, h => sOk_app (sOk_app (h x (by simp)) hs) (sOk_join hs (l := y :: r) fun z hz => h z (List.mem_cons_of_mem _ hz))
theorem rc_ok {q c : Nat} (hc : c < 0x110000) : ∀ x ∈ reprChar q c, x < 0x110000 := by
 have hex : ∀ w : Nat, ∀ x ∈ (List.replicate (w - ((Nat.toDigits 16 c).map Char.toNat).length) 48 ++ (Nat.toDigits 16 c).map Char.toNat), x < 0x110000 := by
   intro w x hx
   rcases List.mem_append.mp hx with hx | hx
   · rw [(List.mem_replicate.mp hx).2]; decide
   · obtain ⟨d, _, rfl⟩ := List.mem_map.mp hx
     exact char_lt d
 have two : ∀ a b : Nat, a < 0x110000 → b < 0x110000 → ∀ x ∈ [a, b], x < 0x110000 := by
   intro a b ha hb x hx
   rcases List.mem_cons.mp hx with rfl | hx
   · exact ha
   · rw [List.mem_singleton.mp hx]; exact hb
 have tw : ∀ a b w : Nat, a < 0x110000 → b < 0x110000 → ∀ x ∈ [a, b] ++ (List.replicate (w - ((Nat.toDigits 16 c).map Char.toNat).length) 48 ++ (Nat.toDigits 16 c).map Char.toNat), x < 0x110000 := by
   intro a b w ha hb x hx
   rcases List.mem_append.mp hx with hx | hx
   · exact two a b ha hb x hx
   · exact hex w x hx
 intro x
 unfold reprChar
 dsimp only
 split
 · exact two _ _ (by decide) hc x
 split
 · exact two _ _ (by decide) (by decide) x
 split
 · exact two _ _ (by decide) (by decide) x
 split
 · exact two _ _ (by decide) (by decide) x
 split
 · intro hx; rw [List.mem_singleton.mp hx]; exact hc
 split
 · exact tw _ _ 2 (by decide) (by decide) x
 split
 · exact tw _ _ 4 (by decide) (by decide) x
 · exact tw _ _ 8 (by decide) (by decide) x
theorem sOk_repr {x : PySem.Str} (h : sOk x) : sOk (reprText x) := by
 have key : ∀ (q : Nat) (l : List Nat) (acc : Array Nat), (∀ c ∈ l, c < 0x110000) → (∀ c ∈ acc.toList, c < 0x110000) → ∀ c ∈ (l.foldl (fun out c => out ++ (reprChar q c).toArray) acc).toList, c < 0x110000 := by
   intro q l
   induction l with
   | nil => intro acc _ ha; exact ha
   | cons c l ih =>
     intro acc hl ha
     refine ih _ (fun d hd => hl d (List.mem_cons_of_mem _ hd)) fun d hd => ?_
     rw [Array.toList_append] at hd
     rcases List.mem_append.mp hd with hd | hd
     · exact ha d hd
     · exact rc_ok (hl c List.mem_cons_self) d (by simpa using hd)
 have hq : reprQuote x < 0x110000 := by unfold reprQuote; split <;> decide
 intro c hc
 unfold reprText at hc
 rw [Array.toList_push, ← Array.foldl_toList] at hc
 rcases List.mem_append.mp hc with hc | hc
 · have h0 : ∀ d ∈ (#[reprQuote x] : Array Nat).toList, d < 0x110000 := fun d hd => by
     have e : d = reprQuote x := by simpa using hd
     rw [e]
     exact hq
   exact key _ _ _ h h0 c hc
 · rw [List.mem_singleton.mp hc]; exact hq
end
open PySem PySem.Spec
open PyProof.Rows hiding St
open L2
mutual
theorem sOk_shown : ∀ d : PyData, d.canLay0 = true → sOk d.shown
 | .none, _ => by rw [PyData.shown_none]; exact sOk_of _
 | .bool b, _ => by rw [PyData.shown_bool]; cases b <;> exact sOk_of _
 | .int i, _ => by rw [PyData.shown_int]; exact sOk_of _
 | .str x, h => by rw [PyData.shown_str]; exact sOk_repr (strOk_iff.mp (by simpa [PyData.canLay0] using h))
 | .list xs, h => by
   rw [PyData.shown_list]
   exact sOk_app (sOk_app (sOk_of _) (sOk_join (sOk_of _) (sOk_shownAll xs (by simpa [PyData.canLay0] using h)))) (sOk_of _)
 | .tuple xs, h => by
   rw [PyData.shown_tuple]
   exact sOk_app (sOk_app (sOk_of _) (sOk_join (sOk_of _) (sOk_shownAll xs (by simpa [PyData.canLay0] using h)))) (sOk_of _)
 | .dict _, h => by simp [PyData.canLay0] at h
theorem sOk_shownAll : ∀ xs : List PyData, PyData.canLayAll0 xs = true → ∀ x ∈ PyData.shownAll xs, sOk x
 | [], _, _, hx => by simp [PyData.shownAll] at hx
 | d :: xs, h, x, hx => by
   rw [PyData.canLayAll0, Bool.and_eq_true] at h
   rw [PyData.shownAll_cons] at hx
   rcases List.mem_cons.mp hx with e | hx
   · rw [e]; exact sOk_shown d h.1
   · exact sOk_shownAll xs h.2 x hx
end
theorem repr_ok {d : PyData} (h1 : d.canLay0 = true) (h2 : d.showable = true) (h3 : d.depth ≤ 60) (h4 : d.leavesShort 13 = true) (h5 : d.bulk ≤ 2 ^ 20) : ∃ x, reprF [d] = some (.o (.str x)) ∧ PyData.strOk x = true := by
 refine ⟨d.shown, ?_, strOk_iff.mpr (sOk_shown d h1)⟩
 unfold reprF
 dsimp only
 rw [if_pos]
 rw [h2, PyData.hasDict_of_canLay d h1, decide_eq_true h3, decide_eq_true (PyData.shown_fits_bulk (B := 13) (by decide) (by decide) h4 h5)]
 rfl
theorem canLayAll_map {α : Type} {f : α → PyData} : ∀ {l : List α}, (∀ a ∈ l, (f a).canLay0 = true) → PyData.canLayAll0 (l.map f) = true
 | [], _ => rfl
 | a :: l, h => by rw [List.map_cons, PyData.canLayAll0, h a List.mem_cons_self, canLayAll_map fun x hx => h x (List.mem_cons_of_mem _ hx)]; rfl
theorem showAll_map {α : Type} {f : α → PyData} : ∀ {l : List α}, (∀ a ∈ l, (f a).showable = true) → PyData.showableAll (l.map f) = true
 | [], _ => by simp [PyData.showableAll]
 | a :: l, h => by rw [List.map_cons, PyData.showableAll, h a List.mem_cons_self, showAll_map fun x hx => h x (List.mem_cons_of_mem _ hx)]; rfl
theorem depthAll_map {α : Type} {f : α → PyData} {n : Nat} : ∀ {l : List α}, (∀ a ∈ l, (f a).depth ≤ n) → PyData.depthAll (l.map f) ≤ n
 | [], _ => by simp [PyData.depthAll]
 | a :: l, h => by
   rw [List.map_cons, PyData.depthAll]
   exact Nat.max_le.mpr ⟨h a List.mem_cons_self, depthAll_map fun x hx => h x (List.mem_cons_of_mem _ hx)⟩
theorem shortAll_map {α : Type} {f : α → PyData} {B : Nat} : ∀ {l : List α}, (∀ a ∈ l, (f a).leavesShort B = true) → PyData.leavesShortAll B (l.map f) = true
 | [], _ => by simp [PyData.leavesShortAll]
 | a :: l, h => by rw [List.map_cons, PyData.leavesShortAll, h a List.mem_cons_self, shortAll_map fun x hx => h x (List.mem_cons_of_mem _ hx)]; rfl
theorem bulkAll_map {α : Type} {f : α → PyData} {n : Nat} : ∀ {l : List α}, (∀ a ∈ l, (f a).bulk ≤ n) → PyData.bulkAll (l.map f) ≤ l.length * (n + 1)
 | [], _ => by simp [PyData.bulkAll]
 | a :: l, h => by
   rw [List.map_cons, PyData.bulkAll, List.length_cons, Nat.succ_mul]
   have := h a List.mem_cons_self
   have := bulkAll_map (f := f) (n := n) fun x hx => h x (List.mem_cons_of_mem a hx)
   omega
theorem short_str {x : Str} (h : PyData.strOk x = true) {B : Nat} : (PyData.str x).leavesShort B = true := by
 have h := strOk_iff.mp h
 rw [PyData.leavesShort, List.all_eq_true]
 intro c hc
 have := h c hc
 exact decide_eq_true (by omega)
section
variable {K : PySem.W.Frag} {O : Ob}
def disS (m : Nat) (g : DS) : DS := fun Dd ρ => g Dd ρ ∨ ∃ ds, ρ[m]? = some (some (.own ds)) ∧ g Dd (ρ.set m (some (.im (.list ds))))
theorem sd_dis {m : Nat} {t : TS} {g : DS} (h : SD K O t g) : SD K O t (disS m g) := fun H₀ A σ H ρ D Dd r q P => by
 rcases q with q | ⟨ds, e, q⟩
 · exact h H₀ A σ H ρ D Dd r q P
 · exact h H₀ _ σ H _ D Dd (r.disown e) q (P.frm (.setIm (.refl _ _)))
end
section
variable {ι κ : Type} {P : Program} {w : World} {K : PySem.W.Frag} {mg : Str → Option Value} {base : Heap} {k : Nat} {X : ι → Cx} {O : κ → Ob} {st : Stmt} {g : DS} {pos : Pos}
theorem s_dis (m : Nat) (h : S3 K X O st g) : S3 K X O st (disS m g) := let ⟨t, p, d⟩ := h; ⟨t, p, fun j => sd_dis (d j)⟩
end
end L3
namespace L3
open PySem PySem.Spec
open PyProof.Rows hiding St
open L2
theorem comp_ofG {α : Type} {enc : α → PyData} {g : DG} {fe : DE} {ρ : DSt} {Q : List PyData → Prop} {as : List α} {e : α → PyData} {h : Nat} (step : ∀ a ∈ as, ∀ P : R → Prop, (∀ r, r.d = e a → P r) → g (enc a) (List.replicate h none ++ ρ) fun ρ2 => if true = true then fe ρ2 P else False) (mg : ∀ d ρ (P P' : DSt → Prop), (∀ ρ, P ρ → P' ρ) → g d ρ P → g d ρ P') (hz : as.length ≤ sizeLine) (q : Q (as.map e)) :
   compGo h g yesD fe ρ Q (as.map enc) [] := by
 have key : ∀ (l : List α) (acc : List PyData), (∀ a ∈ l, a ∈ as) → acc.length + l.length ≤ sizeLine → Q (acc ++ l.map e) → compGo h g yesD fe ρ Q (l.map enc) acc := by
   intro l
   induction l with
   | nil => intro acc _ _ q; show Q acc; simpa using q
   | cons a l ih =>
     intro acc hs hz q
     rw [List.length_cons] at hz
     refine mg _ _ _ _ (fun ρ2 z => ?_) (step a (hs a List.mem_cons_self) (fun r => acc.length < sizeLine ∧ compGo h g yesD fe ρ Q (l.map enc) (acc ++ [r.d])) fun r hr => ⟨by omega, ?_⟩)
     · rw [if_pos rfl] at z
       exact iteT (B := compGo h g yesD fe ρ Q (l.map enc) acc) z
     · rw [hr]
       exact ih (acc ++ [e a]) (fun x hx => hs x (List.mem_cons_of_mem _ hx)) (by rw [List.length_append]; simp; omega) (by simpa using q)
 exact key as [] (fun _ h => h) (by simpa using hz) (by simpa using q)
theorem gT_mono {is : List Nat} : ∀ d ρ (P P' : DSt → Prop), (∀ ρ, P ρ → P' ρ) → gT is d ρ P → gT is d ρ P' := by
 have key : ∀ (is : List Nat) (ds : List PyData) ρ (P P' : DSt → Prop), (∀ ρ, P ρ → P' ρ) → gTD is ds ρ P → gTD is ds ρ P' := by
   intro is
   induction is with
   | nil => intro ds ρ P P' h z; cases ds with
     | nil => exact h _ z
     | cons _ _ => exact z.elim
   | cons i is ih => intro ds ρ P P' h z; cases ds with
     | nil => exact z.elim
     | cons d ds => exact ih ds _ P P' h z
 exact fun d ρ P P' h ⟨ds, e, z⟩ => ⟨ds, e, key _ _ _ _ _ h z⟩
end L3
namespace L3
open PySem PySem.Spec
open PyProof.Rows hiding St
open L2
section
variable {ι κ : Type} {P : Program} {w : World} {K : PySem.W.Frag} {mg : Str → Option Value} {base : Heap} {k : Nat} {X : ι → Cx} {O : κ → Ob} {a b : Expr} {fa : DE} {pos p : Pos} {ga : DA}
theorem mtr_pop {X : Cx} : MtR X "list.pop" rPop := fun pins s σ H x xs v us Q I rx rv h => mt_pop pins s σ H x xs v us Q I rx rv h
end
section
variable {ι κ : Type} {P : Program} {w : World} {K : PySem.W.Frag} {mg : Str → Option Value} {base : Heap} {k : Nat} {X : ι → Cx} {O : κ → Ob} {a b : Expr} {fa fb : DE} {pos p : Pos} {ga : DA}
theorem bt_max : bootBuiltins "max" = some (.builtin "max") := by decide +kernel
end
end L3
namespace L3
open PySem PySem.Spec
open PyProof.Rows hiding St
open L2
namespace RV
theorem nolen_rev : typeLookup (.type "list_reverseiterator") "__len__" = pure none := by rw [typeLookup_type, builtinLookup_eq_fast]; kernel_rfl
theorem hint_rev : typeLookup (.type "list_reverseiterator") "__length_hint__" = pure (some (.builtin "list_reverseiterator.__length_hint__")) := by rw [typeLookup_type, builtinLookup_eq_fast]; kernel_rfl
theorem sub_rev_self : isSubtype (.type "list_reverseiterator") (.type "list_reverseiterator") = pure true := by rw [isSubtype_type]; kernel_rfl
theorem split_hint : splitId "list_reverseiterator.__length_hint__" = some ("list_reverseiterator", "__length_hint__") := by decide +kernel
theorem hint_no {prog : Program} {w : World} {A : Around} {E : Value → Shared → Prop} {s : Shared} {it : Addr} {Q : Bool → Shared → Prop} (t : s.TypeIs (.ref it) "list_reverseiterator") (q : Q false s) : wpAny (model prog w) A (Builtin.List.listLengthHint (.ref it)) Q E s := by
 have sp := split_hint
 unfold Builtin.List.listLengthHint
 refine wpAny_bind (wpAny_specialOf t nolen_rev (wpAny_bind (wpAny_specialOf t hint_rev ?_)))
 revert sp
 generalize z : ("list_reverseiterator.__length_hint__" : String) = nm
 intro sp
 dsimp only
 rw [sp]
 subst z
 exact wpAny_bind (wpAny_isInstance (b := true) t sub_rev_self (wpAny_pure q))
theorem list_of_rev {prog : Program} {w : World} {A : Around} {E : Value → Shared → Prop} {s : Shared} {it l : Addr} {items : Array Value} {Q : Value → Shared → Prop} (hh : A.handled = none) (hr : s.heap.IsRevIter it l ((items.size : Int) - 1)) (hl : s.heap.IsList l items) (hne : l ≠ it) (hz : items.size ≤ sizeLine)
   (q : ∀ h' t' vs c, (∀ b o, b ≠ it → s.heap.get? b = some o → h'.get? b = some o) → h'.get? s.heap.objs.size = some { cls := .type "list", dict := none, data := .seq vs c, slots := #[] } → ItemsOf (fun i v => items[items.size - 1 - i]? = some v) vs items.size → Q (.ref s.heap.objs.size) { s with heap := h', toks := t' }) :
   wpAny (model prog w) A (call (.type "list") [.ref it]) Q E s := by
 have W := (Walks.listRev (prog := prog) (w := w) (A := A.in1.in1) hh it l hne items).toS
 have new : ∀ b o, s.heap.get? b = some o → b ≠ s.heap.objs.size := fun b o e z => by
   subst z
   rw [Heap.get?] at e
   simp at e
 refine callType_codes (Q₁ := fun v s1 => v = .ref s.heap.objs.size ∧ s1 = { s with heap := s.heap.push { cls := .type "list", data := .seq #[] } }) F.called_list (F.typeCall_list_1 _) F.entry_list_init (code_list_new _ ⟨rfl, rfl⟩) ?_
 rintro _ _ ⟨rfl, rfl⟩
 refine ⟨⟨_, Heap.get?_push_size _ rfl, rfl⟩, F.args_list_init_2 _ _, ?_⟩
 obtain ⟨o, ho, hc, hd⟩ := id hr
 have nI : s.heap.objs.size ≠ it := fun z => new it _ ho z.symm
 have same : Builtin.List.listSameRef (.ref s.heap.objs.size) (.ref it) = false := by simp [Builtin.List.listSameRef, nI]
 have t1 : Value.type "list_reverseiterator" ≠ Value.type "list" := by decide
 have eS : (s.heap.push { cls := .type "list", data := .seq #[] }).get? s.heap.objs.size = some { cls := .type "list", data := .seq #[] } := Heap.get?_push_size _ rfl
 have eI := Heap.get?_push_of_some { cls := .type "list", data := .seq (#[] : Array Value) } ho
 have a1 := nolen_rev
 have a2 := hint_rev
 have a3 := sub_rev_self
 obtain ⟨hp, g, dr, tk, os⟩ := s
 have eI2 : (((hp.push { cls := .type "list", data := .seq #[] }).update hp.objs.size (Obj.mapSeq fun _ => (#[] : Array Value))).get? it) = some o := by
   rw [Heap.get?_update_other _ _ nI]
   exact eI
 have eS2 := Heap.get?_update_self (Obj.mapSeq (fun _ => (#[] : Array Value))) eS rfl
 have hr2 : ((hp.push { cls := .type "list", data := .seq #[] }).update hp.objs.size (Obj.mapSeq fun _ => (#[] : Array Value))).IsRevIter it l ((items.size : Int) - 1) := ⟨o, eI2, hc, hd⟩
 have hT : Shared.TypeIs ⟨((hp.push { cls := .type "list", data := .seq #[] }).update hp.objs.size (Obj.mapSeq fun _ => (#[] : Array Value))), g, dr, tk, os⟩ (.ref it) "list_reverseiterator" := ⟨o, eI2, hc⟩
 unfold Builtin.«list.__init__»
 wp_walk using wpAny_pyIter_revIter hr2, wpAny_typeOf hT, hint_no hT
 have hl2 : ((hp.push { cls := .type "list", data := .seq #[] }).update hp.objs.size (Obj.mapSeq fun _ => (#[] : Array Value))).IsList l items := by
   obtain ⟨ol, h1, h2⟩ := hl
   refine ⟨ol, ?_, h2⟩
   rw [Heap.get?_update_other _ _ (fun z => new l _ h1 z.symm)]
   exact Heap.get?_push_of_some _ h1
 have hS : hp.objs.size ∉ [it, l] := fun z => by
   obtain ⟨ol, h1, _⟩ := hl
   rcases List.mem_cons.mp z with z | z
   · exact nI z
   · exact new l _ h1 (List.mem_singleton.mp z).symm
 refine ⟨plainId_quiet F.plain_extend_loop _, codeAny_extend_loopS W hz _ hS _ items.size 0 _ _ _ rfl (Nat.zero_le _) ⟨Nat.zero_le _, by simpa using hr2, hl2⟩ eS2 (ItemsOf.nil _) fun s' vs c m e is => ⟨rfl, ?_⟩⟩
 obtain ⟨hp', g', dr', tk', os'⟩ := s'
 obtain ⟨m1, m2, m3, m4, m5⟩ := m
 have m2 : g' = g := m2
 have m3 : dr' = dr := m3
 have m4 : os' = os := m4
 subst m2 m3 m4
 refine q hp' tk' vs c (fun b ob hb eb => m1 b ob (fun z => ?_) ?_) e is
 · rcases List.mem_cons.mp z with z | z
   · exact new b _ eb z
   · exact hb (List.mem_singleton.mp z)
 · show ((hp.push _).update _ _).get? b = _
   rw [Heap.get?_update_other _ _ (fun z => new b _ eb z.symm)]
   exact Heap.get?_push_of_some _ eb
theorem items_rev {its : List Value} {vs : Array Value} (h : ItemsOf (fun i v => its.toArray[its.toArray.size - 1 - i]? = some v) vs its.toArray.size) : vs = its.reverse.toArray := by
 obtain ⟨h1, h2⟩ := h
 apply Array.ext'
 apply List.ext_getElem?
 intro i
 by_cases hi : i < vs.size
 · have e : vs.toList[i]? = some vs[i] := by simp [hi]
   have e2 := h2 i vs[i] (by simp [hi])
   rw [e, ← e2]
   simp at h1 e2 ⊢
   rw [List.getElem?_reverse (by omega)]
 · rw [List.getElem?_eq_none (by simpa using hi)]
   symm
   apply List.getElem?_eq_none
   simp at h1 ⊢
   omega
end RV
def tLR (K : PySem.W.Frag) (te : TE) : TE := fun σ H Q => te σ H fun v H1 => ∃ a xs, v = .ref a ∧ SqL K H1 a xs ∧ ∀ p, H1 p = none → Q (.ref p) (upd H1 p (.lst xs.reverse))
theorem pe_listrev {X : Cx} {e : Expr} {te : TE} {p1 p2 p3 p4 : Pos} (calm : X.A.handled = none) (gl : Gl X "list") (ml : X.mg "list" = none) (gr : Gl X "reversed") (mr : X.mg "reversed" = none) (he : PE X e te)
   (s1 : starEach [.Call (.Name "reversed" p2) [e] [] p3] X.env = (false, eval (.Call (.Name "reversed" p2) [e] [] p3) X.env) :: starEach [] X.env := by rfl) (s2 : starEach [e] X.env = (false, eval e X.env) :: starEach [] X.env := by rfl) :
   PE X (.Call (.Name "list" p1) [.Call (.Name "reversed" p2) [e] [] p3] [] p4) (tLR X.K te) := by
 intro pins s σ H Q I h
 refine wpAny_Call_Name_kw (ld_blt I gl ml (u := .type "list") rfl ?_)
 refine PyProof.Rows.callWith_type1 ?_ s1
 rw [s1]
 show wpAny _ _ (spliced ((false, eval (.Call (.Name "reversed" p2) [e] [] p3) X.env) :: [])) _ _ s
 refine Calls.spliced_cons ?_
 refine wpAny_Call_Name_kw (ld_blt I gr mr (u := .type "reversed") rfl ?_)
 refine PyProof.Rows.callWith_type1 ?_ s2
 rw [s2]
 show wpAny _ _ (spliced ((false, eval e X.env) :: [])) _ _ s
 refine Calls.spliced_cons (thn (he pins s σ H _ I h) fun u s' ⟨y, H1, I1, r1, a, xs, ey, hq, q⟩ => ?_)
 subst ey
 cases r1
 refine Calls.spliced_nil ?_
 obtain ⟨its, rv, pl, hz⟩ := I1.list hq
 have hlen := rv.length
 have isl := pl.isList
 refine call_reversed_list isl ?_
 refine Calls.spliced_nil ?_
 have new : a ≠ s'.heap.objs.size := fun z => by
   obtain ⟨o, ho, _⟩ := isl
   exact Nat.lt_irrefl _ (z ▸ Heap.lt_size ho)
 have isl2 : (s'.heap.push (revObj a ((its.toArray.size : Int) - 1))).IsList a its.toArray := isl.push _
 refine RV.list_of_rev (s := { s' with heap := s'.heap.push (revObj a ((its.toArray.size : Int) - 1)) }) calm ⟨_, Heap.get?_push_size _ rfl, rfl, rfl⟩ isl2 new (by simp; omega) fun h' t' vs c kp e is => ?_
 have ez : (s'.heap.push (revObj a ((its.toArray.size : Int) - 1))).objs.size = s'.heap.objs.size + 1 := Heap.size_push ..
 have ev := RV.items_rev is
 subst ev
 have kp2 : ∀ b o, s'.heap.get? b = some o → h'.get? b = some o := fun b o eb => kp b o (fun z => Nat.lt_irrefl _ (z ▸ Heap.lt_size eb)) (Heap.get?_push_of_some _ eb)
 have fr : H1 (s'.heap.objs.size + 1) = none := I1.hok.fresh (Nat.le_succ _)
 dsimp only at e ⊢
 rw [ez] at e ⊢
 exact ⟨.ref (s'.heap.objs.size + 1), _, I1.laid (t' := t') kp2 (Nat.le_succ _) (show ObjOk X.prog X.w _ h' _ (.lst xs.reverse) from ⟨by rw [List.length_reverse]; exact hz, its.reverse, c, rv.reverse, e⟩), rfl, q _ fr⟩
end L3
namespace L3
open PySem PySem.Spec
open PyProof.Rows hiding St
open L2
abbrev kSeed : Key := .inr "seed"
abbrev kNum : Key := .inr "number"
abbrev kLeft : Key := .inr "left"
def dealKv (seed num : Int) (l : Addr) : List (Key × V) := [(kSeed, .int seed), (kNum, .int num), (kLeft, .ref l)]
def dealA (seed num : Int) (l : Addr) : HO := .dK (dealKv seed num l)
theorem val_seed (s n : Int) (l : Addr) : valV (dealKv s n l) kSeed = some (.int s) := by simp [valV, dealKv, List.find?_cons]
theorem val_num (s n : Int) (l : Addr) : valV (dealKv s n l) kNum = some (.int n) := by
 have h1 : ¬ (kSeed = kNum) := by decide +kernel
 simp [valV, dealKv, List.find?_cons, h1]
theorem val_left (s n : Int) (l : Addr) : valV (dealKv s n l) kLeft = some (.ref l) := by
 have h1 : ¬ (kSeed = kLeft) := by decide +kernel
 have h2 : ¬ (kNum = kLeft) := by decide +kernel
 simp [valV, dealKv, List.find?_cons, h1, h2]
theorem put_seed (s n s' : Int) (l : Addr) : putK (dealKv s n l) kSeed (.int s') = dealKv s' n l := by
 have h1 : ¬ (kNum = kSeed) := by decide +kernel
 have h2 : ¬ (kLeft = kSeed) := by decide +kernel
 simp [putK, dealKv, h1, h2]
theorem put_num (s n n' : Int) (l : Addr) : putK (dealKv s n l) kNum (.int n') = dealKv s n' l := by
 have h1 : ¬ (kSeed = kNum) := by decide +kernel
 have h2 : ¬ (kLeft = kNum) := by decide +kernel
 simp [putK, dealKv, h1, h2]
structure DealAt (H : Hp) (a l : Addr) (seed num : Int) (ns : List Int) : Prop where
 ne : a ≠ l
 ha : H a = some (dealA seed num l)
 hl : H l = some (.lst (ns.map V.int))
 s0 : 0 ≤ seed
 s1 : seed < 4294967296
 n0 : 0 ≤ num
 ns0 : ∀ n ∈ ns, 0 ≤ n
structure IsDeal (O : Ob) : Prop where
 ex : ∃ a l, O.v = .ref a ∧ O.M a ∧ O.M l ∧ (∀ H, O.P H → ∃ s n ns, DealAt H a l s n ns) ∧ ∀ H H' s n ns, O.P H → DealAt H' a l s n ns → (∀ b, O.M b → b ≠ a → b ≠ l → H' b = H b) → O.P H'
theorem IsDeal.plus {O : Ob} (h : IsDeal O) (D : Addr) (u : HO) (nm : ¬ O.M D) : IsDeal (O.plus D u) := by
 obtain ⟨a, l, hv, ma, ml, h1, h2⟩ := h.ex
 have da : D ≠ a := fun e => nm (e ▸ ma)
 have dl : D ≠ l := fun e => nm (e ▸ ml)
 refine ⟨a, l, hv, .inl ma, .inl ml, fun H p => h1 H p.1, fun H H' s n ns p q k => ⟨h2 H H' s n ns p.1 q fun b mb => k b (.inl mb), ?_⟩⟩
 rw [k D (.inr rfl) da dl]
 exact p.2
theorem upD {κ : Type} {O : κ → Ob} (h : ∀ j, IsDeal (O j)) : ∀ j, IsDeal (compO O j) := fun j => (h j.1.1).plus _ _ j.2
def dealOb (a l : Addr) : Ob := ⟨fun b => b = a ∨ b = l, fun H => ∃ s n ns, DealAt H a l s n ns, .ref a⟩
theorem dealOb_ok (a l : Addr) : (dealOb a l).Ok := by
 refine ⟨fun H H' e ⟨s, n, ns, p⟩ => ⟨s, n, ns, p.ne, (e a (.inl rfl)).trans p.ha, (e l (.inr rfl)).trans p.hl, p.s0, p.s1, p.n0, p.ns0⟩, fun H b o ⟨s, n, ns, p⟩ eb m => ?_, fun H b ⟨s, n, ns, p⟩ m => ?_⟩
 · rcases m with rfl | rfl
   · rw [p.ha] at eb; cases eb; exact ⟨fun _ z => (by cases z), fun _ _ z => (by cases z)⟩
   · rw [p.hl] at eb; cases eb; exact ⟨fun _ z => (by cases z), fun _ _ z => (by cases z)⟩
 · rcases m with rfl | rfl
   · exact ⟨_, p.ha⟩
   · exact ⟨_, p.hl⟩
theorem dealOb_is (a l : Addr) : IsDeal (dealOb a l) := ⟨a, l, rfl, .inl rfl, .inr rfl, fun _ p => p, fun _ _ s n ns _ q _ => ⟨s, n, ns, q⟩⟩
abbrev dAt (k : Str) : TE := tDGet (tVar 0) (tC (.str k))
def tDealW (K : PySem.W.Frag) : TS :=
 tWhile (tAnd (tTest (tOp rEq (dAt "number") (tC (.int 0)))) (tTest (tOp (rI0 fun i j => .bl (decide (j < i))) (tCB (lenR K) (tCons (dAt "left") tNil)) (tC (.int 0)))))
     (sDPut (tVar 0) (tC (.str "number")) (tBM0 K "list" rPop (dAt "left")))
theorem at_num {H : Hp} {a l : Addr} {s n : Int} {ns : List Int} {σ : St} {Q : VK} (p : DealAt H a l s n ns) (hσ : σ[0]? = some (some (.ref a))) (q : Q (.int n) H) : dAt "number" σ H Q :=
 ⟨_, hσ, a, _, rfl, .inl ⟨_, kNum, .inl p.ha, rfl, (val_num s n l).symm⟩, q⟩
theorem at_seed {H : Hp} {a l : Addr} {s n : Int} {ns : List Int} {σ : St} {Q : VK} (p : DealAt H a l s n ns) (hσ : σ[0]? = some (some (.ref a))) (q : Q (.int s) H) : dAt "seed" σ H Q :=
 ⟨_, hσ, a, _, rfl, .inl ⟨_, kSeed, .inl p.ha, rfl, (val_seed s n l).symm⟩, q⟩
theorem at_left {H : Hp} {a l : Addr} {s n : Int} {ns : List Int} {σ : St} {Q : VK} (p : DealAt H a l s n ns) (hσ : σ[0]? = some (some (.ref a))) (q : Q (.ref l) H) : dAt "left" σ H Q :=
 ⟨_, hσ, a, _, rfl, .inl ⟨_, kLeft, .inl p.ha, rfl, (val_left s n l).symm⟩, q⟩
theorem len_kv (s n : Int) (l : Addr) : (dealKv s n l).length < sizeLine := by rw [sizeLine_eq]; show 3 < 16777216; decide
theorem DealAt.setN {H : Hp} {a l : Addr} {s n : Int} {ns : List Int} (p : DealAt H a l s n ns) {n' : Int} (h : 0 ≤ n') : DealAt (upd H a (dealA s n' l)) a l s n' ns :=
 ⟨p.ne, upd_same, by rw [upd_ne (Ne.symm p.ne)]; exact p.hl, p.s0, p.s1, h, p.ns0⟩
theorem DealAt.setS {H : Hp} {a l : Addr} {s n : Int} {ns : List Int} (p : DealAt H a l s n ns) {s' : Int} (h : 0 ≤ s') (h2 : s' < 4294967296) : DealAt (upd H a (dealA s' n l)) a l s' n ns :=
 ⟨p.ne, upd_same, by rw [upd_ne (Ne.symm p.ne)]; exact p.hl, h, h2, p.n0, p.ns0⟩
theorem put_n {H : Hp} {a l : Addr} {s n : Int} {ns : List Int} (p : DealAt H a l s n ns) (n' : Int) : DPut H a (.str "number") (.int n') (upd H a (dealA s n' l)) :=
 .inl ⟨_, kNum, p.ha, rfl, len_kv s n l, by rw [put_num]; rfl⟩
theorem put_s {H : Hp} {a l : Addr} {s n : Int} {ns : List Int} (p : DealAt H a l s n ns) (s' : Int) : DPut H a (.str "seed") (.int s') (upd H a (dealA s' n l)) :=
 .inl ⟨_, kSeed, p.ha, rfl, len_kv s n l, by rw [put_seed]; rfl⟩
theorem deal_stp {O : Ob} {H H' : Hp} {a l : Addr} {s n s' n' : Int} {ns ns' : List Int} (ma : O.M a) (ml : O.M l) (h2 : ∀ H H' s n ns, O.P H → DealAt H' a l s n ns → (∀ b, O.M b → b ≠ a → b ≠ l → H' b = H b) → O.P H') (p : DealAt H a l s n ns) (p' : DealAt H' a l s' n' ns') (st : PotStp a l H H') : Stp O H H' := by
 refine ⟨fun b o e nm => ?_, fun pp => h2 H H' _ _ _ pp p' fun b _ h3 h4 => st.oth b h3 h4, fun b u hu e => ?_⟩
 · rw [st.oth b (fun z => nm (z ▸ ma)) fun z => nm (z ▸ ml)]; exact e
 · rw [st.oth b (fun z => ?_) fun z => ?_]
   · exact e
   · rw [z, p.ha] at e; cases e; obtain ⟨xs, e1 | ⟨o, e1⟩⟩ := hu <;> cases e1
   · rw [z, p.hl] at e; cases e; obtain ⟨xs, e1 | ⟨o, e1⟩⟩ := hu <;> cases e1
end L3
namespace L3
open PySem PySem.Spec
open PyProof.Rows hiding St
open L2
theorem upd2 (H : Hp) (a : Addr) (x y : HO) : upd (upd H a x) a y = upd H a y := by
 funext b
 by_cases e : b = a
 · subst e; rw [upd_same, upd_same]
 · rw [upd_ne e, upd_ne e, upd_ne e]
theorem tcomp_ints {K : PySem.W.Frag} {c : Addr} {ns : List Int} {σ : St} {H : Hp} {tf : TT} {te : TE} {G : Addr → Hp → Prop} (p : Int → Bool) (f : Int → Int) (hS : SqL K H c (ns.map V.int)) (hz : ns.length ≤ 63)
   (ht : ∀ n H' R, R (p n) H' → tf (some (.int n) :: σ) H' R) (he : ∀ n H' R, R (V.int (f n)) H' → te (some (.int n) :: σ) H' R)
   (q : ∀ D, H D = none → G D (upd H D (.lst (((ns.filter p).map f).map V.int)))) :
   ∀ D, H D = none → ∃ W : Nat → Nat → List V → Hp → Prop, (∃ m, W 0 m [] (upd H D (.lst []))) ∧ ∀ i m ys H', W i m ys H' → H' D = some (.lst ys) ∧ (((Itl K c).stop i H' ∧ G D H') ∨ ((Itl K c).go i H' ∧ ∀ x H'', (Itl K c).yld i H' x H'' → gName 0 x (List.replicate 1 none ++ σ) H'' fun σ2 H2 => tf σ2 H2 fun b H3 =>
     if b = true then te σ2 H3 fun y H4 => H4 D = some (.lst ys) ∧ ys.length < sizeLine ∧ ∃ m', m' < m ∧ W (i + 1) m' (ys ++ [y]) (upd H4 D (.lst (ys ++ [y]))) else ∃ m', m' < m ∧ W (i + 1) m' ys H3)) := by
 intro D hD
 have sz := sizeLine_eq
 refine ⟨fun i m ys H' => m = ns.length - i ∧ i ≤ ns.length ∧ ys = (((ns.take i).filter p).map f).map V.int ∧ H' = upd H D (.lst ys), ⟨_, rfl, Nat.zero_le _, rfl, rfl⟩, ?_⟩
 rintro i m ys H' ⟨rfl, hi, rfl, rfl⟩
 refine ⟨upd_same, ?_⟩
 have hS' := (L3.same_new hD (.lst ((((ns.take i).filter p).map f).map V.int))).seq hS
 by_cases lt : i < ns.length
 · right
   refine ⟨⟨_, .int ns[i], hS', by rw [List.getElem?_map, List.getElem?_eq_getElem lt]; rfl⟩, fun x H'' ⟨e, y⟩ => ?_⟩
   subst e
   have ex := y _ hS'
   rw [List.getElem?_map, List.getElem?_eq_getElem lt] at ex
   cases ex
   show tf (some (.int ns[i]) :: σ) _ _
   have et : (ns.take (i + 1)).filter p = (ns.take i).filter p ++ (if p ns[i] = true then [ns[i]] else []) := by
     rw [List.take_succ_eq_append_getElem lt, List.filter_append, List.filter_cons]
     rfl
   refine ht _ _ _ ?_
   by_cases cc : p ns[i] = true
   · rw [if_pos cc] at et ⊢
     have hlen : ((ns.take i).filter p).length ≤ ns.length := Nat.le_trans (List.length_filter_le _ _) (by rw [List.length_take]; omega)
     refine he _ _ _ ⟨upd_same, by rw [List.length_map, List.length_map]; omega, ns.length - (i + 1), by omega, rfl, lt, ?_, upd2 _ _ _ _⟩
     rw [et, List.map_append, List.map_append]
     rfl
   · rw [if_neg cc] at et ⊢
     rw [List.append_nil] at et
     exact ⟨ns.length - (i + 1), by omega, rfl, lt, by rw [et], rfl⟩
 · left
   have e : i = ns.length := by omega
   subst e
   refine ⟨⟨_, hS', by rw [List.length_map]; exact Nat.le_refl _⟩, ?_⟩
   rw [List.take_length]
   exact q D hD
abbrev rMax2 : List V → Hp → VK → Prop := fun xs H Q => ∃ i j, xs = [.int i, .int j] ∧ Q (.int (if j > i then j else i)) H
def spDeal (K : PySem.W.Frag) : Sp := fun vs H Q _ => ∃ (a : Addr) (ns : List Int), vs = [.ref a, .int 0] ∧ SqL K H a (ns.map V.int) ∧ ns.length ≤ 63 ∧ ∀ p l s left H', H p = none → H l = none → Same H H' → DealAt H' p l s 0 left → Q (.ref p) H'
end L3
namespace L3
open PySem PySem.Spec
open PyProof.Rows hiding St
open L2
structure DC where
 (cb cc ce m2 m3 m4 : Int)
structure DC.Ok (c : DC) : Prop where
 (cc : -(2 ^ 64) < c.cc ∧ c.cc < 2 ^ 64) 
 (m2 : 0 < c.m2 ∧ c.m2 < 4294967296)
 (m3 : 0 < c.m3 ∧ c.m3 < 4294967296)
 (m4 : 0 < c.m4 ∧ c.m4 < 4294967296)
def tDealRG (K : PySem.W.Frag) (c : DC) : TS :=
 tSeq (tAsg (dAt "number") (gName 2))
 (tSeq (tIfS (tTest (tOp (rI0 fun i j => .bl (decide (j < i))) (tVar 2) (tC (.int 0))))
     (tSeq (sDPut (tVar 0) (tC (.str "number")) (tOp (rI CDiv fun i j => .int (i / j)) (tVar 2) (tVar 1))) (tRet (tOp (rI (fun _ j => 0 < j) fun i j => .int (i % j)) (tVar 2) (tVar 1)))) tNext)
 (tSeq (tAsg (tOp (rI (fun _ j => 0 < j) fun i j => .int (i % j)) (tOp (rI0 fun i j => .int (i + j)) (tOp (rI CMul fun i j => .int (i * j)) (dAt "seed") (tC (.int 48271))) (tC (.int c.cb))) (tC (.int 2147483647))) (gName 3))
 (tSeq (sDPut (tVar 0) (tC (.str "seed")) (tOp (rI (fun _ j => 0 < j) fun i j => .int (i % j)) (tOp (rI0 fun i j => .int (i + j)) (tOp (rI CMul fun i j => .int (i * j)) (tVar 3) (tC (.int c.cc))) (tC (.int c.ce))) (tC (.int c.m2))))
 (tSeq (tAsg (tOp (rI (fun _ j => 0 < j) fun i j => .int (i % j)) (tOp (rI CMul fun i j => .int (i * j)) (dAt "seed") (dAt "seed")) (tC (.int c.m3))) (gName 4))
 (tRet (tOp (rI (fun _ j => 0 < j) fun i j => .int (i % j)) (tOp (rI0 fun i j => .int (i + j)) (tOp (rI CMul fun i j => .int (i * j)) (tOp (rI (fun _ j => 0 < j) fun i j => .int (i % j)) (tOp (rI CMul fun i j => .int (i * j)) (tVar 3) (tVar 3)) (tC (.int c.m4))) (tC (.int c.m3))) (tVar 4)) (tVar 1)))))))
def tDealDG (K : PySem.W.Frag) (c : DC) : TS := tSeq (tDealW K) (tDealRG K c)
theorem dealRG_ok {K : PySem.W.Frag} {c : DC} (hc : c.Ok) {H : Hp} {a l : Addr} {s n : Int} {ns : List Int} {m : Int} {D : Ends} (p : DealAt H a l s n ns) (m0 : 0 < m) (m1 : m < 1073741824)
   (q : ∀ k H' s' n' ns', 0 ≤ k → k < m → DealAt H' a l s' n' ns' → PotStp a l H H' → D.rt (.int k) H') : tDealRG K c D [some (.ref a), some (.int m), none, none, none] H := by
 refine at_num p rfl ?_
 refine ⟨_, rfl, n, 0, rfl, rfl, _, rfl, ?_⟩
 refine ite2 (fun _ => ?_) (fun _ => ?_)
 · refine ⟨_, rfl, _, rfl, n, m, rfl, rfl, ⟨m0, m1⟩, ?_⟩
   refine ⟨_, rfl, a, _, rfl, put_n p _, ?_⟩
   exact ⟨_, rfl, _, rfl, n, m, rfl, rfl, m0, q _ _ s _ ns (Int.emod_nonneg _ (by omega)) (Int.emod_lt_of_pos _ m0) (p.setN (Int.ediv_nonneg p.n0 (by omega))) (.upA _)⟩
 · have s0 := p.s0
   have s1 := p.s1
   refine at_seed p rfl ?_
   refine ⟨s, 48271, rfl, rfl, .inl ⟨by omega, by omega⟩, ?_⟩
   refine ⟨_, _, rfl, rfl, _, _, rfl, rfl, (show (0 : Int) < 2147483647 by decide), ?_⟩
   dsimp only
   have e0 : 0 ≤ (s * 48271 + c.cb) % 2147483647 := Int.emod_nonneg _ (by decide)
   have e1 : (s * 48271 + c.cb) % 2147483647 < 2147483647 := Int.emod_lt_of_pos _ (by decide)
   generalize (s * 48271 + c.cb) % 2147483647 = one at e0 e1
   have hm2 := hc.m2
   have hm3 := hc.m3
   have hm4 := hc.m4
   refine ⟨_, rfl, one, c.cc, rfl, rfl, .inl ⟨by omega, by omega⟩, ?_⟩
   refine ⟨_, _, rfl, rfl, _, _, rfl, rfl, hm2.1, ?_⟩
   dsimp only
   have f0 : 0 ≤ (one * c.cc + c.ce) % c.m2 := Int.emod_nonneg _ (by omega)
   have f1 : (one * c.cc + c.ce) % c.m2 < c.m2 := Int.emod_lt_of_pos _ hm2.1
   generalize (one * c.cc + c.ce) % c.m2 = sd at f0 f1
   refine ⟨_, rfl, a, _, rfl, put_s p _, ?_⟩
   have p2 := p.setS (s' := sd) (by omega) (by omega)
   refine at_seed p2 rfl (at_seed p2 rfl ?_)
   refine ⟨sd, sd, rfl, rfl, .inl ⟨by omega, by omega⟩, _, _, rfl, rfl, hm3.1, ?_⟩
   have g0 : 0 ≤ one * one % c.m4 := Int.emod_nonneg _ (by omega)
   have g1 : one * one % c.m4 < c.m4 := Int.emod_lt_of_pos _ hm4.1
   refine ⟨_, rfl, _, rfl, one, one, rfl, rfl, .inl ⟨by omega, by omega⟩, ?_⟩
   refine ⟨_, _, rfl, rfl, hm4.1, _, _, rfl, rfl, .inl ⟨by omega, by omega⟩, ?_⟩
   refine ⟨_, rfl, _, _, rfl, rfl, _, rfl, _, _, rfl, rfl, m0, ?_⟩
   exact q _ _ _ _ _ (Int.emod_nonneg _ (by omega)) (Int.emod_lt_of_pos _ m0) p2 (.upA _)
theorem dealG_ok {K : PySem.W.Frag} {dc : DC} (hc : dc.Ok) {H : Hp} {a l : Addr} {s n : Int} {ns : List Int} {m : Int} {D : Ends} (p : DealAt H a l s n ns) (m0 : 0 < m) (m1 : m < 1073741824)
   (q : ∀ k H' s' n' ns', 0 ≤ k → k < m → DealAt H' a l s' n' ns' → PotStp a l H H' → D.rt (.int k) H') : tDealDG K dc D [some (.ref a), some (.int m), none, none, none] H := by
 refine ⟨fun c σ H' => σ = [some (.ref a), some (.int m), none, none, none] ∧ ∃ s n ns, c = ns.length ∧ DealAt H' a l s n ns ∧ PotStp a l H H', ⟨_, rfl, s, n, ns, rfl, p, .refl _ _ _⟩, ?_⟩
 rintro c σ H1 ⟨rfl, s, n, ns, rfl, p, st⟩
 have out : tDealRG K dc D [some (.ref a), some (.int m), none, none, none] H1 := dealRG_ok hc p m0 m1 fun k H' s' n' ns' h1 h2 h3 h4 => q k H' s' n' ns' h1 h2 h3 (st.trans h4)
 refine at_num p rfl ?_
 refine ⟨rfl, _, rfl, ?_⟩
 refine ite2 (fun c => ?_) (fun c => iteF out)
 refine at_left p rfl ?_
 refine ⟨_, _, rfl, .inl ⟨_, .of p.hl, rfl⟩, _, _, rfl, rfl, _, rfl, ?_⟩
 refine ite2 (fun c2 => ?_) (fun c2 => out)
 have c3 := of_decide_eq_true c2
 have hne : ns ≠ [] := fun e => by rw [e] at c3; simp at c3
 obtain ⟨r, x, rfl⟩ : ∃ r x, ns = r ++ [x] := ⟨ns.dropLast, ns.getLast hne, (List.dropLast_concat_getLast hne).symm⟩
 refine ⟨fun σ' H' => σ' = [some (.ref a), some (.int m), none, none, none] ∧ ∃ s n ns, ns.length < (r ++ [x]).length ∧ DealAt H' a l s n ns ∧ PotStp a l H H', fun σ' H' ⟨e, s, n, ns, hl, h1, h2⟩ => ⟨_, hl, e, s, n, ns, rfl, h1, h2⟩, ?_⟩
 refine at_left p rfl ?_
 have p1 : DealAt (upd H1 l (.lst ((r ++ [x]).map V.int).dropLast)) a l s n r := ⟨p.ne, by rw [upd_ne p.ne]; exact p.ha, by rw [upd_same, List.map_append]; show some (HO.lst (List.dropLast (_ ++ [V.int x]))) = _; rw [List.dropLast_concat], p.s0, p.s1, p.n0, fun z hz => p.ns0 z (List.mem_append_left _ hz)⟩
 refine ⟨.inl ⟨rfl, _, .of p.hl⟩, l, _, .int x, rfl, rfl, p.hl, by simp, ?_⟩
 refine ⟨_, rfl, a, _, rfl, put_n p1 x, rfl, s, x, r, by simp, p1.setN (p.ns0 x (by simp)), st.trans (PotStp.trans (.upL _) (.upA _))⟩
theorem dealDG_body {K : PySem.W.Frag} {c : DC} (hc : c.Ok) {O : Ob} {H : Hp} {ds : List PyData} {ws : List V} {Qr : R → Prop} {Q : VK} {x1 x2 x3 x4 x5 : Str} (hφ : IsDeal O) (p : O.P H) (is : IsAll K (unM O) H ws ds) (q : drawF ds Qr) (kk : ∀ r, Qr r → ∀ v H', Stp O H H' → Out K O H H' v r → Q v H') :
   tDealDG K c { nx := fun _ H' => Q .non H', rt := Q } (L2.start [x1, x2, x3, x4, x5] (O.v :: ws)) H := by
 obtain ⟨m, rfl, m0, m1, q⟩ := q
 obtain ⟨a, l, hv, ma, ml, h1, h2⟩ := hφ.ex
 obtain ⟨s, n, ns, pa⟩ := h1 H p
 obtain ⟨v, rfl, iv⟩ := isAll_one is
 cases iv
 rw [hv]
 exact dealG_ok hc pa m0 m1 fun k H' s' n' ns' k0 k1 p' st => kk _ (q k k0 k1) _ H' (deal_stp ma ml h2 pa p' st) (Is.int k)
def tMakeG (K : PySem.W.Frag) (ti ts : TE) : TS :=
 tSeq (tAsg (tComp 1 (iList K (tSl (rSlL K) (tVar 0) (tPart (tVar 1)) (tPart (tC (.int 63))))) (gName 0) tYes (tCB rMax2 (tCons (tVar 0) (tCons (tOp (rI0 fun i j => .int (i - j)) (tC (.int 0)) (tVar 0)) tNil)))) (gName 2))
 (tSeq (tAsg ti (gName 3))
 (tSeq (tFor (iList K (tVar 2)) (gName 4)
   (tAsg ts (gName 3)))
 (tRet (tDisp [(tC (.str "seed"), tVar 3), (tC (.str "number"), tC (.int 0)), (tC (.str "left"), tLR K (tComp 1 (iList K (tVar 2)) (gName 0) (tTest (tOp (rI0 fun i j => .bl (decide (j ≤ i))) (tVar 0) (tOp (rI CPow fun i j => .int (i ^ j.toNat)) (tC (.int 10)) (tC (.int 18))))) (tVar 0)))]))))
theorem makeG_body {K : PySem.W.Frag} {ti ts : TE} {s0 : Int} (hs0 : 0 ≤ s0) (hs1 : s0 < 4294967296) (hi : ∀ (v v1 : V) H Q, Q (.int s0) H → ti [some v, some (.int 0), some v1, none, none] H Q) (hst : ∀ (v v1 : V) (s n : Int) H Q, 0 ≤ s → s < 4294967296 → (∀ s', 0 ≤ s' → s' < 4294967296 → Q (.int s') H) → ts [some v, some (.int 0), some v1, some (.int s), some (.int n)] H Q) {H : Hp} {Q : VK} {a : Addr} {ns : List Int} (hS : SqL K H a (ns.map V.int)) (hl : ns.length ≤ 63)
   (q : ∀ p l s left H', H p = none → H l = none → Same H H' → DealAt H' p l s 0 left → Q (.ref p) H') : tMakeG K ti ts { nx := fun _ H' => Q .non H', rt := Q } [some (.ref a), some (.int 0), none, none, none] H := by
 have sL := sizeLine_eq
 refine ⟨_, rfl, _, rfl, _, rfl, 63, rfl, a, _, rfl, hS, fun c hc => ?_⟩
 rw [cutV_map]
 have hcl : (cutL ns (some 0) (some 63)).length ≤ 63 := by
   unfold cutL
   rw [List.length_take, List.length_drop]
   omega
 generalize cutL ns (some 0) (some 63) = cs at hcl
 refine ⟨c, rfl, ⟨_, .of upd_same⟩, ?_⟩
 have g1 : Same H (upd H c (.lst (cs.map V.int))) := L3.same_new hc _
 refine tcomp_ints (K := K) (c := c) (H := upd H c (.lst (cs.map V.int))) (σ := [some (.ref a), some (.int 0), none, none, none]) (tf := tYes) (te := tCB rMax2 (tCons (tVar 0) (tCons (tOp (rI0 fun i j => .int (i - j)) (tC (.int 0)) (tVar 0)) tNil))) (fun _ => true) (fun n => if 0 - n > n then 0 - n else n) (.of upd_same) hcl (fun n H' R r => r) (fun n H' R r => ⟨_, rfl, _, rfl, 0, n, rfl, rfl, n, 0 - n, rfl, r⟩) fun d hd => ?_
 have hcs : cs.filter (fun _ => true) = cs := List.filter_eq_self.mpr fun _ _ => rfl
 rw [hcs]
 have habs : ∀ n ∈ cs.map (fun n => if 0 - n > n then 0 - n else n), 0 ≤ n := fun n hn => by
   obtain ⟨m, _, rfl⟩ := List.mem_map.mp hn
   split <;> omega
 have hal : (cs.map (fun n => if 0 - n > n then 0 - n else n)).length ≤ 63 := by rw [List.length_map]; exact hcl
 generalize cs.map (fun n => if 0 - n > n then 0 - n else n) = es at habs hal
 have g2 : Same H (upd (upd H c (.lst (cs.map V.int))) d (.lst (es.map V.int))) := g1.trans (L3.same_new hd _)
 generalize eH : upd (upd H c (.lst (cs.map V.int))) d (.lst (es.map V.int)) = H1 at g2
 have hd1 : H1 d = some (.lst (es.map V.int)) := by rw [← eH]; exact upd_same
 refine hi _ _ _ _ ?_
 refine ⟨_, rfl, d, rfl, ⟨_, .of hd1⟩, ?_⟩
 refine for_list (xs := es.map V.int) (fun i σ H' => ∃ (s : Int) (o : Option V), σ = [some (.ref a), some (.int 0), some (.ref d), some (.int s), o] ∧ 0 ≤ s ∧ s < 4294967296 ∧ H' = H1) ?_ ?_ ?_ ?_
 · exact ⟨_, none, rfl, hs0, hs1, rfl⟩
 · rintro i σ H' hi ⟨s, o, rfl, h1, h2, rfl⟩
   exact .of hd1
 · rintro i x σ H' hx ⟨s, o, rfl, h1, h2, rfl⟩
   rw [List.getElem?_map] at hx
   obtain ⟨n, hn, rfl⟩ := Option.map_eq_some_iff.mp hx
   exact hst _ _ s n _ _ h1 h2 fun s' f0 f1 => ⟨_, _, rfl, f0, f1, rfl⟩
 · rintro σ H' ⟨s, o, rfl, h1, h2, rfl⟩
   intro p hp
   have npd : p ≠ d := fun z => by rw [z, hd1] at hp; cases hp
   refine ⟨_, rfl, ?_⟩
   have hd2 : upd H' p (.dK []) d = some (.lst (es.map V.int)) := by rw [upd_ne (Ne.symm npd)]; exact hd1
   refine ⟨_, rfl, d, rfl, ⟨_, .of hd2⟩, ?_⟩
   refine tcomp_ints (tf := tTest (tOp (rI0 fun i j => .bl (decide (j ≤ i))) (tVar 0) (tOp (rI CPow fun i j => .int (i ^ j.toNat)) (tC (.int 10)) (tC (.int 18))))) (te := tVar 0) (fun n => decide ((10 : Int) ^ (18 : Int).toNat ≤ n)) (fun n => n) (.of hd2) hal (fun n H' R r => ⟨_, rfl, 10, 18, rfl, rfl, ⟨by decide, by decide, by decide⟩, _, _, rfl, rfl, _, rfl, r⟩) (fun n H' R r => ⟨_, rfl, r⟩) fun e he => ?_
   rw [List.map_id']
   have hfl : ∀ n ∈ es.filter (fun n => decide ((10 : Int) ^ (18 : Int).toNat ≤ n)), 0 ≤ n := fun n hn => habs n (List.mem_filter.mp hn).1
   generalize es.filter (fun n => decide ((10 : Int) ^ (18 : Int).toNat ≤ n)) = left at hfl
   have npe : p ≠ e := fun z => by rw [← z, upd_same] at he; cases he
   refine ⟨e, _, rfl, .of upd_same, fun l hln => ?_⟩
   have npl : p ≠ l := fun z => by
     rw [← z, upd_ne npe, upd_same] at hln
     cases hln
   have nel : e ≠ l := fun z => by rw [← z, upd_same] at hln; cases hln
   have hlp : upd H' p (.dK []) l = none := by rw [upd_ne (Ne.symm nel)] at hln; exact hln
   have hlH : H' l = none := by rw [upd_ne (Ne.symm npl)] at hlp; exact hlp
   refine ⟨by rw [upd_ne npl, upd_ne npe]; exact upd_same, dealKv s 0 l, rfl, by show 3 ≤ 15; decide, ?_⟩
   have em : mergeK [] (dealKv s 0 l) = dealKv s 0 l := by
     have a1 : ¬ (kSeed = kNum) := by decide +kernel
     have a2 : ¬ (kSeed = kLeft) := by decide +kernel
     have a3 : ¬ (kNum = kLeft) := by decide +kernel
     simp [mergeK, dealKv, putK, a1, a2, a3]
   rw [em]
   have heH : H' e = none := by rw [upd_ne (Ne.symm npe)] at he; exact he
   have hm : (left.map V.int).reverse = left.reverse.map V.int := List.map_reverse.symm
   rw [hm]
   refine q p l s left.reverse _ (g2.free hp) (g2.free hlH) (fun b o eb => ?_) ⟨npl, upd_same, ?_, h1, h2, Int.le_refl 0, fun n hn => hfl n (List.mem_reverse.mp hn)⟩
   · have e1 := g2 b o eb
     have n1 : b ≠ p := fun z => by rw [z, hp] at e1; cases e1
     have n2 : b ≠ l := fun z => by rw [z, hlH] at e1; cases e1
     have n3 : b ≠ e := fun z => by rw [z, heH] at e1; cases e1
     rw [upd_ne n1, upd_ne n2, upd_ne n3, upd_ne n1]
     exact e1
   · rw [upd_ne (Ne.symm npl)]
     exact upd_same
theorem letters_bodyG {K : PySem.W.Frag} {φ : Ob → Prop} (hp : ∀ (O : Ob) (D : Addr) (u : HO), φ O → ¬ O.M D → φ (O.plus D u)) {O : Ob} {H : Hp} {ds : List PyData} {ws : List V} {Qr : R → Prop} {Q : VK} {x1 x2 x3 : Str} (ok : O.Ok) (hφ : φ O) (p : O.P H) (is : IsAll K (unM O) H ws ds) (q : lettersF ds Qr) (kk : ∀ r, Qr r → ∀ v H', Stp O H H' → Out K O H H' v r → Q v H') :
   tLetters K (spD K φ 1 drawF) { nx := fun _ H' => Q .non H', rt := Q } (L2.start [x1, x2, x3] (O.v :: ws)) H := by
 obtain ⟨m, rfl, m0, m1, q⟩ := q
 obtain ⟨v, rfl, iv⟩ := isAll_one is
 cases iv
 have hsz : sizeLine = 16777216 := sizeLine_eq
 refine ⟨_, rfl, by decide, fun l hl => ?_⟩
 have eabc : (Str.ofString "abcdefghijklmnopqrstuvwxyz").cps.toList = abc := by decide +kernel
 rw [eabc]
 have sl : Stp O H (upd H l (.lst (abc.map fun c => V.str (sg c)))) := .new ok hl _
 have nMl : ¬ O.M l := fun mm => by obtain ⟨o, z⟩ := ok.here H l p mm; rw [hl] at z; cases z
 have al : ∀ b o, H b = some o → b ≠ l := fun b o e z => by rw [z, hl] at e; cases e
 refine ⟨rfl, ?_⟩
 refine ⟨_, rfl, m, rfl, by omega, by omega, fun D hD => ?_⟩
 have nlD : l ≠ D := fun z => by rw [← z, upd_same] at hD; cases hD
 have hDH : H D = none := Same.free (L3.same_new hl _) hD
 have nMD : ¬ O.M D := fun mm => by obtain ⟨o, z⟩ := ok.here H D p mm; rw [hDH] at z; cases z
 have aD : ∀ b o, H b = some o → b ≠ D := fun b o e z => by rw [z, hDH] at e; cases e
 have pl : ∀ {H' : Hp} {b : Addr} {o : HO}, ¬ O.M b → O.P H' → O.P (upd H' b o) := fun {H' b o} nb pp => ok.loc H' _ (fun c mc => upd_ne fun z => nb (z ▸ mc)) pp
 refine ⟨fun i c ys H' => c = m.toNat - i ∧ i ≤ m.toNat ∧ H' D = some (.lst ys) ∧ (∃ w r : List Nat, ys = w.map (fun c => V.str (sg c)) ∧ w.length = i ∧ (∀ c ∈ w, isLow c) ∧ H' l = some (.lst (r.map fun c => V.str (sg c))) ∧ r.length + i = 26 ∧ (∀ c ∈ r, isLow c) ∧ (w ++ r).Nodup) ∧
     O.P H' ∧ (∀ b o, H b = some o → ¬ O.M b → H' b = some o) ∧ TupStay H H', ⟨_, rfl, Nat.zero_le _, upd_same, ⟨[], abc, rfl, rfl, by simp, by rw [upd_ne nlD]; exact upd_same, rfl, by unfold isLow; decide, by decide⟩, pl nMD (pl nMl p), fun b o e n => ?_, fun b u _ e => ?_⟩, ?_⟩
 · rw [upd_ne (aD b o e), upd_ne (al b o e)]; exact e
 · rw [upd_ne (aD b u e), upd_ne (al b u e)]; exact e
 rintro i c ys H' ⟨rfl, hi, hDy, ⟨w, r, rfl, hw, hwl, hr, hrl, hrc, hnd⟩, pp, kp, ts⟩
 refine ⟨hDy, ?_⟩
 by_cases hlt : i < m.toNat
 · right
   refine ⟨hlt, fun x H2 ⟨e2, _⟩ => ?_⟩
   subst e2
   have hr0 : 0 < r.length := by omega
   show tBM K "list" rPopAt (tVar 3) _ _ H2 _
   refine ⟨_, rfl, .inl ⟨rfl, _, .of hr⟩, _, rfl, ?_⟩
   refine ⟨_, rfl, _, r.length, rfl, .inl ⟨_, .of hr, by rw [List.length_map]⟩, ?_⟩
   have okp := (ok.plus D (w.map fun c => V.str (sg c))).plus l (r.map fun c => V.str (sg c))
   have nl2 : ¬ (O.plus D (.lst (w.map fun c => V.str (sg c)))).M l := fun mm => by
     rcases mm with mm | mm
     · exact nMl mm
     · exact nlD mm
   show spD K φ 1 drawF ([O.v, V.int r.length] ++ []) H2 _ E0
   refine ⟨_, [.int r.length], [.int r.length], fun x => ∃ k : Int, x = .o (.int k) ∧ 0 ≤ k ∧ k < r.length, okp, hp _ l _ (hp _ D _ hφ nMD) nl2, ⟨⟨pp, hDy⟩, hr⟩, rfl, rfl, .cons (.int _) .nil, ⟨_, rfl, by omega, by omega, fun k k0 k1 => ⟨k, rfl, k0, k1⟩⟩, ?_⟩
   rintro _ ⟨k, rfl, k0, k1⟩ v H3 st o3
   cases o3
   obtain ⟨⟨p3, hD3⟩, hl3⟩ := st.p ⟨⟨pp, hDy⟩, hr⟩
   have hk : k.toNat < r.length := by omega
   have ek : k = ((k.toNat : Nat) : Int) := by omega
   refine ⟨l, _, k, k.toNat, V.str (sg r[k.toNat]), rfl, rfl, hl3, by omega, by omega, ?_, by rw [List.getElem?_map, List.getElem?_eq_getElem hk]; rfl, ?_⟩
   · rw [List.length_map]
     unfold seqIndex?
     simp only [show ¬ k < 0 by omega, if_false]
     first | (rw [if_pos (by omega)]) | (simp; omega) | omega
   · have ne1 : D ≠ l := Ne.symm nlD
     refine ⟨by rw [upd_ne ne1]; exact hD3, by rw [List.length_map]; omega, m.toNat - (i + 1), by omega, rfl, hlt, upd_same, ⟨w ++ [r[k.toNat]], r.eraseIdx k.toNat, by rw [List.map_append]; rfl, by rw [List.length_append, hw]; rfl, fun c hc => ?_, ?_, ?_, fun c hc => hrc c (eraseIdx_mem hc), ?_⟩, pl nMD (pl nMl p3), fun b o e n => ?_, fun b u hu e => ?_⟩
     · rcases List.mem_append.mp hc with hc | hc
       · exact hwl c hc
       · rw [List.mem_singleton.mp hc]; exact hrc _ (List.getElem_mem hk)
     · rw [upd_ne nlD, upd_same, erase_map]
     · rw [List.length_eraseIdx]
       rw [if_pos hk]
       omega
     · rw [List.append_assoc]
       refine (List.Perm.nodup_iff (List.Perm.append_left w ?_)).mp hnd
       exact (perm_pick hk).symm
     · rw [upd_ne (aD b o e), upd_ne (al b o e)]
       exact st.s b o (kp b o e n) fun mm => by
         rcases mm with (mm | mm) | mm
         · exact n mm
         · exact aD b o e mm
         · exact al b o e mm
     · rw [upd_ne (aD b u e), upd_ne (al b u e)]
       exact st.t b u hu (ts b u hu e)
 · left
   have e : i = m.toNat := by omega
   refine ⟨by show m.toNat ≤ i; omega, ?_⟩
   refine ⟨D, w.map sg, rfl, by rw [hDy, List.map_map]; rfl, by rw [List.length_map]; omega, fun zs z hpm hs hz => ?_⟩
   obtain ⟨w2, rfl, hw2⟩ := unsg (zs := zs) fun y hy => by
     obtain ⟨c, hc, rfl⟩ := List.mem_map.mp (hpm.mem_iff.mp hy)
     exact ⟨c, rfl, hwl c hc⟩
   have hlen : w2.length = w.length := by have := hpm.length_eq; simpa using this
   have hinc : w2.Pairwise (· < ·) := by
     refine sorted_inc hs ?_
     have hw1 : (w.map sg).Nodup := List.pairwise_map.mpr ((List.nodup_append.mp hnd).1.imp fun ne e => ne (sg_inj e))
     have hw3 : (w2.map sg).Nodup := hpm.symm.nodup_iff.mp hw1
     exact (List.pairwise_map.mp hw3).imp fun ne e => ne (congrArg sg e)
   refine ⟨_, z, w2.map sg, rfl, rfl, upd_same, ?_, ?_⟩
   · rw [sum_sg, List.length_map]
     have e0 : (Str.ofString "").length = 0 := by decide +kernel
     rw [e0]
     omega
   · rw [join_sg]
     have az : ∀ b o, H b = some o → ¬ O.M b → b ≠ z := fun b o eb n e2 => by rw [e2] at eb; have := kp z o eb (e2 ▸ n); rw [hz] at this; cases this
     have nMz : ¬ O.M z := fun mm => by obtain ⟨o, y⟩ := ok.here H' z pp mm; rw [hz] at y; cases y
     refine kk _ (q w2 (by omega) hw2 hinc) _ _ ⟨fun b o eb n => by rw [upd_ne (az b o eb n)]; exact kp b o eb n, fun _ => pl nMz pp, fun b u hu eb => ?_⟩ (Is.str _)
     have h1 := ts b u hu eb
     rw [upd_ne fun e2 => by rw [e2, hz] at h1; cases h1]
     exact h1
theorem letters_deal {K : PySem.W.Frag} {O : Ob} {H : Hp} {ds : List PyData} {ws : List V} {Qr : R → Prop} {Q : VK} {x1 x2 x3 : Str} (ok : O.Ok) (hφ : IsDeal O) (p : O.P H) (is : IsAll K (unM O) H ws ds) (q : lettersF ds Qr) (kk : ∀ r, Qr r → ∀ v H', Stp O H H' → Out K O H H' v r → Q v H') :
   tLetters K (spD K IsDeal 1 drawF) { nx := fun _ H' => Q .non H', rt := Q } (L2.start [x1, x2, x3] (O.v :: ws)) H := letters_bodyG (fun O D u h n => h.plus D u n) ok hφ p is q kk
end L3
namespace L13
open PySem PySem.Spec
open PyProof.Rows hiding St
open L2 L3
def top (i : Nat) : Stmt := PySem.Challenge.pw_lostpost_k13_least_words.main.body.getD i (.Pass ⟨0, 0, 0, 0⟩)
section
variable {P : Program} {w : World} {K : PySem.W.Frag} {mg : Str → Option Value} {base : Heap} {k : Nat}
abbrev DDraw (P : Program) (w : World) (K : PySem.W.Frag) (mg : Str → Option Value) (base : Heap) : Prop := Def3 P w K mg base 1 "_law_draw" ["_law_deal_here", "_law_many"] (spD K IsDeal 1 drawF)
abbrev sDeal : Stmt := top 7
theorem scDeal : FnScope ["_law_script", "_law_base", "_law_cells", "_law_number", "_law_cell"] ["_law_script", "_law_base"] (defScope sDeal) := ⟨rfl, rfl, rfl, by decide +kernel, rfl, by decide +kernel, by decide +kernel⟩
theorem d_law_deal (B : Blt mg) (T : Top3 K mg "_law_deal" sDeal) : Def3 P w K mg base 1 "_law_deal" ["_law_script", "_law_base"] (spDeal K) := by
 obtain ⟨f, fd, Fu, m⟩ := T.ex
 refine ⟨f, fd, Fu.ok scDeal (fun vs H Q E h => by obtain ⟨a, ns, rfl, _⟩ := h; rfl) (fun cdv A outer s H vs Q E hr h => ?_), m, Fu.kp, Fu.binds (fun _ _ _ _ _ _ us hl => match us, hl with | [_, _], _ => rfl)⟩
 obtain ⟨a, ns, rfl, hS, hl, q⟩ := h
 refine ⟨tMakeG K (tOp (rI0 fun i j => .int (i + j)) (tC (.int 7919)) (tVar 1)) (tOp (rI (fun _ j => 0 < j) fun i j => .int (i % j)) (tOp (rI0 fun i j => .int (i + j)) (tOp (rI CMul fun i j => .int (i * j)) (tVar 3) (tC (.int 48271))) (tOp (rI (fun _ j => 0 < j) fun i j => .int (i % j)) (tVar 4) (tC (.int 2147483629)))) (tC (.int 2147483647))), ?_, makeG_body (s0 := 7919 + 0) (by decide) (by decide) (fun v v1 H Q q => ⟨_, rfl, 7919, 0, rfl, rfl, q⟩) (fun v v1 s n H Q h1 h2 q => ⟨_, rfl, s, 48271, rfl, rfl, .inl ⟨by omega, by omega⟩, _, rfl, n, 2147483629, rfl, rfl, (show (0 : Int) < 2147483629 by decide), _, _, rfl, rfl, _, _, rfl, rfl, (show (0 : Int) < 2147483647 by decide), q _ (Int.emod_nonneg _ (by decide)) (Int.lt_of_lt_of_le (Int.emod_lt_of_pos _ (by decide)) (by decide))⟩) hS hl q⟩
 have nd : (["_law_script", "_law_base", "_law_cells", "_law_number", "_law_cell"] : List Str).Nodup := by decide +kernel
 exact (pss_cons (ps_setComp (n0 := 2) nd rfl rfl rfl 1 (N' := ["_law_cell", "_law_script", "_law_base", "_law_cells", "_law_number", "._law_cell"]) (.of rfl (by kernel_rfl)) rfl (pi_list (pe_slice sl_list (pe_var (i := 0) rfl (by first | exact Or.inl rfl | exact Or.inr (Or.inl rfl) | exact Or.inr (Or.inr rfl))) (po_some (pe_var (i := 1) rfl (by first | exact Or.inl rfl | exact Or.inr (Or.inl rfl) | exact Or.inr (Or.inr rfl)))) (po_some pe_int))) (fun C s H ex => pg_name (of_decide_eq_true (by kernel_rfl)) rfl (by first | exact Or.inl rfl | exact Or.inr rfl) (by first | exact .inl rfl | exact .inr rfl)) (own_name (by decide)) (fun C s H ex => pf_nil) (fun C s H ex => pe_callB (call_max2 rfl) rfl B.max bt_max (pa_cons (pe_var (i := 0) rfl (by first | exact Or.inl rfl | exact Or.inr (Or.inl rfl) | exact Or.inr (Or.inr rfl))) (pa_cons (pe_op op_sub pe_int (pe_var (i := 0) rfl (by first | exact Or.inl rfl | exact Or.inr (Or.inl rfl) | exact Or.inr (Or.inr rfl)))) pa_nil))))
   (pss_cons (ps_set (i := 3) nd rfl (by first | exact Or.inl rfl | exact Or.inr rfl) (pe_op op_add pe_int (pe_var (i := 1) rfl (by first | exact Or.inl rfl | exact Or.inr (Or.inl rfl) | exact Or.inr (Or.inr rfl)))))
   (pss_cons (ps_for PassesOwn.never rfl (pi_list (pe_var (i := 2) rfl (by first | exact Or.inl rfl | exact Or.inr (Or.inl rfl) | exact Or.inr (Or.inr rfl)))) (pg_name (i := 4) nd rfl (by first | exact Or.inl rfl | exact Or.inr rfl)) (pss_one (ps_set (i := 3) nd rfl (by first | exact Or.inl rfl | exact Or.inr rfl) (pe_op op_mod (pe_op op_add (pe_op op_mul (pe_var (i := 3) rfl (by first | exact Or.inl rfl | exact Or.inr (Or.inl rfl) | exact Or.inr (Or.inr rfl))) pe_int) (pe_op op_mod (pe_var (i := 4) rfl (by first | exact Or.inl rfl | exact Or.inr (Or.inl rfl) | exact Or.inr (Or.inr rfl))) pe_int)) pe_int))))
   (pss_one (ps_ret (pe_disp (pps_cons pe_str (pe_var (i := 3) rfl (by first | exact Or.inl rfl | exact Or.inr (Or.inl rfl) | exact Or.inr (Or.inr rfl))) (pps_cons pe_str pe_int (pps_cons pe_str (pe_listrev (hr.hd) rfl B.list rfl B.reversed (pe_comp 1 (N' := ["_law_cell", "_law_script", "_law_base", "_law_cells", "_law_number", "._law_cell"]) (.of rfl (by kernel_rfl)) rfl (pi_list (pe_var (i := 2) rfl (by first | exact Or.inl rfl | exact Or.inr (Or.inl rfl) | exact Or.inr (Or.inr rfl)))) (fun C s H ex => pg_name (of_decide_eq_true (by kernel_rfl)) rfl (by first | exact Or.inl rfl | exact Or.inr rfl) (by first | exact .inl rfl | exact .inr rfl)) (own_name (by decide)) (fun C s H ex => pf_one (pt_cmpR op_ge (pe_var (i := 0) rfl (by first | exact Or.inl rfl | exact Or.inr (Or.inl rfl) | exact Or.inr (Or.inr rfl))) (pe_op op_pow pe_int pe_int) (nomark _))) (fun C s H ex => (pe_var (i := 0) rfl (by first | exact Or.inl rfl | exact Or.inr (Or.inl rfl) | exact Or.inr (Or.inr rfl)))))) pps_nil))) rfl rfl (by simp) (by decide)))))))
def dc : DC := ⟨7919, 40692, 104729, 2147483399, 2147483563, 2147483629⟩
theorem dc_ok : dc.Ok := ⟨by decide, by decide, by decide, by decide⟩
abbrev sDraw : Stmt := top 8
theorem scDraw : FnScope ["_law_deal_here", "_law_many", "_law_number", "_law_one", "_law_other"] ["_law_deal_here", "_law_many"] (defScope sDraw) := ⟨rfl, rfl, rfl, by decide +kernel, rfl, by decide +kernel, by decide +kernel⟩
theorem d_law_draw (B : Blt mg) (T : Top3 K mg "_law_draw" sDraw) : Def3 P w K mg base 1 "_law_draw" ["_law_deal_here", "_law_many"] (spD K IsDeal 1 drawF) := by
 obtain ⟨f, fd, Fu, m⟩ := T.ex
 refine ⟨f, fd, Fu.ok scDraw (spD_len rfl) (fun cdv A outer s H vs Q E hr h => ?_), m, Fu.kp, Fu.binds (fun _ _ _ _ _ _ us hl => match us, hl with | [_, _], _ => rfl)⟩
 obtain ⟨O, ds, ws, Qr, ok, hφ, p, hl, rfl, is, q, kk⟩ := h
 refine ⟨tDealDG K dc, ?_, dealDG_body dc_ok hφ p is q kk⟩
 have nd : (["_law_deal_here", "_law_many", "_law_number", "_law_one", "_law_other"] : List Str).Nodup := by decide +kernel
 exact (pss_cons (ps_while PassesOwn.never (PW.pt (pw_and (pt_cmpR op_eq (pe_dget (hu_of hr) (pe_var (i := 0) rfl (by first | exact Or.inl rfl | exact Or.inr (Or.inl rfl) | exact Or.inr (Or.inr rfl))) pe_str (fun _ _ => rfl)) pe_int (nomark _)) (pw_and1 (pt_cmpR op_gt (pe_callB call_len rfl B.len bt_len (pa_cons (pe_dget (hu_of hr) (pe_var (i := 0) rfl (by first | exact Or.inl rfl | exact Or.inr (Or.inl rfl) | exact Or.inr (Or.inr rfl))) pe_str (fun _ _ => rfl)) pa_nil)) pe_int (nomark _))))) (pss_one (ps_dput (hu_of hr) (pe_var (i := 0) rfl (by first | exact Or.inl rfl | exact Or.inr (Or.inl rfl) | exact Or.inr (Or.inr rfl))) pe_str (pe_bm0 PySem.F.plainAttrs_list PySem.F.slot_list_pop PySem.F.type_list_pop mtr_pop (pe_dget (hu_of hr) (pe_var (i := 0) rfl (by first | exact Or.inl rfl | exact Or.inr (Or.inl rfl) | exact Or.inr (Or.inr rfl))) pe_str (fun _ _ => rfl))) rfl)))
   (pss_cons (ps_set (i := 2) nd rfl (by first | exact Or.inl rfl | exact Or.inr rfl) (pe_dget (hu_of hr) (pe_var (i := 0) rfl (by first | exact Or.inl rfl | exact Or.inr (Or.inl rfl) | exact Or.inr (Or.inr rfl))) pe_str (fun _ _ => rfl)))
   (pss_cons (ps_if (pt_cmpR op_gt (pe_var (i := 2) rfl (by first | exact Or.inl rfl | exact Or.inr (Or.inl rfl) | exact Or.inr (Or.inr rfl))) pe_int (nomark _)) (pss_cons (ps_dput (hu_of hr) (pe_var (i := 0) rfl (by first | exact Or.inl rfl | exact Or.inr (Or.inl rfl) | exact Or.inr (Or.inr rfl))) pe_str (pe_op op_fdiv (pe_var (i := 2) rfl (by first | exact Or.inl rfl | exact Or.inr (Or.inl rfl) | exact Or.inr (Or.inr rfl))) (pe_var (i := 1) rfl (by first | exact Or.inl rfl | exact Or.inr (Or.inl rfl) | exact Or.inr (Or.inr rfl)))) rfl) (pss_one (ps_ret (pe_op op_mod (pe_var (i := 2) rfl (by first | exact Or.inl rfl | exact Or.inr (Or.inl rfl) | exact Or.inr (Or.inr rfl))) (pe_var (i := 1) rfl (by first | exact Or.inl rfl | exact Or.inr (Or.inl rfl) | exact Or.inr (Or.inr rfl))))))) pss_nil)
   (pss_cons (ps_set (i := 3) nd rfl (by first | exact Or.inl rfl | exact Or.inr rfl) (pe_op op_mod (pe_op op_add (pe_op op_mul (pe_dget (hu_of hr) (pe_var (i := 0) rfl (by first | exact Or.inl rfl | exact Or.inr (Or.inl rfl) | exact Or.inr (Or.inr rfl))) pe_str (fun _ _ => rfl)) pe_int) pe_int) pe_int))
   (pss_cons (ps_dput (hu_of hr) (pe_var (i := 0) rfl (by first | exact Or.inl rfl | exact Or.inr (Or.inl rfl) | exact Or.inr (Or.inr rfl))) pe_str (pe_op op_mod (pe_op op_add (pe_op op_mul (pe_var (i := 3) rfl (by first | exact Or.inl rfl | exact Or.inr (Or.inl rfl) | exact Or.inr (Or.inr rfl))) pe_int) pe_int) pe_int) rfl)
   (pss_cons (ps_set (i := 4) nd rfl (by first | exact Or.inl rfl | exact Or.inr rfl) (pe_op op_mod (pe_op op_mul (pe_dget (hu_of hr) (pe_var (i := 0) rfl (by first | exact Or.inl rfl | exact Or.inr (Or.inl rfl) | exact Or.inr (Or.inr rfl))) pe_str (fun _ _ => rfl)) (pe_dget (hu_of hr) (pe_var (i := 0) rfl (by first | exact Or.inl rfl | exact Or.inr (Or.inl rfl) | exact Or.inr (Or.inr rfl))) pe_str (fun _ _ => rfl))) pe_int))
   (pss_one (ps_ret (pe_op op_mod (pe_op op_add (pe_op op_mul (pe_op op_mod (pe_op op_mul (pe_var (i := 3) rfl (by first | exact Or.inl rfl | exact Or.inr (Or.inl rfl) | exact Or.inr (Or.inr rfl))) (pe_var (i := 3) rfl (by first | exact Or.inl rfl | exact Or.inr (Or.inl rfl) | exact Or.inr (Or.inr rfl)))) pe_int) pe_int) (pe_var (i := 4) rfl (by first | exact Or.inl rfl | exact Or.inr (Or.inl rfl) | exact Or.inr (Or.inr rfl)))) (pe_var (i := 1) rfl (by first | exact Or.inl rfl | exact Or.inr (Or.inl rfl) | exact Or.inr (Or.inr rfl))))))))))))
abbrev sAlphabet : Stmt := top 9
theorem scAlphabet : FnScope ["_law_deal_here", "_law_many", "_law_left"] ["_law_deal_here", "_law_many"] (defScope sAlphabet) := ⟨rfl, rfl, rfl, by decide +kernel, rfl, by decide +kernel, by decide +kernel⟩
theorem d_law_alphabet (B : Blt mg) (d_law_draw : DDraw P w K mg base) (T : Top3 K mg "_law_alphabet" sAlphabet) : Def3 P w K mg base 2 "_law_alphabet" ["_law_deal_here", "_law_many"] (spD K IsDeal 1 lettersF) := by
 obtain ⟨f, fd, Fu, m⟩ := T.ex
 refine ⟨f, fd, Fu.ok scAlphabet (spD_len rfl) (fun cdv A outer s H vs Q E hr h => ?_), m, Fu.kp, Fu.binds (fun _ _ _ _ _ _ us hl => match us, hl with | [_, _], _ => rfl)⟩
 obtain ⟨O, ds, ws, Qr, ok, hφ, p, hl, rfl, is, q, kk⟩ := h
 refine ⟨tLetters K (spD K IsDeal 1 drawF), ?_, letters_deal ok hφ p is q kk⟩
 have nd : (["_law_deal_here", "_law_many", "_law_left"] : List Str).Nodup := by decide +kernel
 obtain ⟨fD, fdD, G, mD, kpD, bnD⟩ := d_law_draw.ex
 exact pss_cons (ps_set (i := 2) nd rfl (by first | exact Or.inl rfl | exact Or.inr rfl) (pe_callTy (call_listS rfl) rfl B.list bt_list (pa_cons pe_str pa_nil)))
   (pss_one (ps_ret (pe_bm PySem.F.plainAttrs_str PySem.F.slot_str_join PySem.F.type_str_join mtr_join pe_str (pa_cons (pe_callB call_sortS rfl B.sorted bt_sorted (pa_cons
     (pe_comp 1 (N' := ["_law_k", "_law_deal_here", "_law_many", "_law_left"]) (.of rfl (by kernel_rfl)) rfl (pi_range1 rfl B.range (pa_cons (pe_var (i := 1) rfl (by first | exact Or.inl rfl | exact Or.inr (Or.inl rfl) | exact Or.inr (Or.inr rfl))) pa_nil))
       (fun C s H ex => pg_name (of_decide_eq_true (by kernel_rfl)) rfl (by first | exact Or.inl rfl | exact Or.inr rfl) (by first | exact .inl rfl | exact .inr rfl)) (own_name (by decide)) (fun C s H ex => pf_nil)
       (fun C s H ex => pe_bm PySem.F.plainAttrs_list PySem.F.slot_list_pop PySem.F.type_list_pop mtr_popAt (pe_var (i := 3) rfl (by first | exact Or.inl rfl | exact Or.inr (Or.inl rfl) | exact Or.inr (Or.inr rfl)))
         (pa_cons (pe_call (k := 1) (by exact G) (by exact hr) rfl mD kpD bnD .nil pass0 (pa_cons (pe_var (i := 1) rfl (by first | exact Or.inl rfl | exact Or.inr (Or.inl rfl) | exact Or.inr (Or.inr rfl))) (pa_cons (pe_callB call_len rfl B.len bt_len (pa_cons (pe_var (i := 3) rfl (by first | exact Or.inl rfl | exact Or.inr (Or.inl rfl) | exact Or.inr (Or.inr rfl))) pa_nil)) pa_nil))) pa_nil))) pa_nil)) pa_nil))))
end
end L13
namespace L3
open PySem PySem.Spec
open PyProof.Rows hiding St
open L2
abbrev tS (w : List Nat) : PyData := .str (tx w)
def Sml (w : List Nat) : Prop := w.length ≤ 100 ∧ ∀ c ∈ w, c < 128
theorem ok_sml {w : List Nat} (h : Sml w) : PyData.strOk (tx w) = true := by
 rw [strOk_iff]
 intro c hc
 rw [tx_toList] at hc
 have := h.2 c hc
 omega
end L3
namespace L3
open PySem PySem.Spec
open PyProof.Rows hiding St
open L2
mutual
def solid : PyData → Bool
 | .none => true
 | .int _ => true
 | .str _ => true
 | .tuple ds => solids ds
 | _ => false
def solids : List PyData → Bool
 | [] => true
 | d :: ds => solid d && solids ds
end
mutual
theorem eqv_solid : ∀ d e : PyData, solid d = true → solid e = true → (PyData.eqv d e = true ↔ d = e)
 | .none, e, _, h => by cases e <;> simp [PyData.eqv, solid] at *
 | .int i, e, _, h => by cases e <;> simp [PyData.eqv, solid] at *
 | .str x, e, _, h => by cases e <;> simp [PyData.eqv, solid] at *
 | .tuple ds, e, h0, h => by
   cases e with
   | tuple es =>
     have := eqv_solids ds es (by simpa [solid] using h0) (by simpa [solid] using h)
     simp only [PyData.eqv]
     rw [this]
     exact ⟨fun z => by rw [z], fun z => by cases z; rfl⟩
   | none => simp [PyData.eqv]
   | int _ => simp [PyData.eqv]
   | str _ => simp [PyData.eqv]
   | bool _ => simp [solid] at h
   | list _ => simp [solid] at h
   | dict _ => simp [solid] at h
 | .bool _, _, h, _ => by simp [solid] at h
 | .list _, _, h, _ => by simp [solid] at h
 | .dict _, _, h, _ => by simp [solid] at h
theorem eqv_solids : ∀ ds es : List PyData, solids ds = true → solids es = true → (PyData.eqvAll ds es = true ↔ ds = es)
 | [], [], _, _ => by simp [PyData.eqvAll]
 | [], _ :: _, _, _ => by simp [PyData.eqvAll]
 | _ :: _, [], _, _ => by simp [PyData.eqvAll]
 | d :: ds, e :: es, h, h' => by
   simp only [solids, Bool.and_eq_true] at h h'
   simp only [PyData.eqvAll, Bool.and_eq_true]
   rw [eqv_solid d e h.1 h'.1, eqv_solids ds es h.2 h'.2]
   simp
end
structure Nice (n b : Nat) (d : PyData) : Prop where
 lay : d.canLay0 = true
 sh : d.showable = true
 sho : d.leavesShort 13 = true
 dep : d.depth ≤ n
 bul : d.bulk ≤ b
 sol : solid d = true
theorem nice_str {x : Str} {b : Nat} (h : PyData.strOk x = true) (hb : x.length ≤ b) : Nice 0 b (.str x) := ⟨h, by simp [PyData.showable], short_str h, Nat.le_refl _, hb, rfl⟩
theorem nice_txt {v : List Nat} {b : Nat} (h : ∀ c ∈ v, c < 1000) (hb : v.length ≤ b) : Nice 0 b (tS v) := nice_str (by
 rw [strOk_iff]
 intro c hc
 rw [tx_toList] at hc
 have := h c hc
 omega) (by rw [tx_len]; exact hb)
theorem solids_map {α : Type} {f : α → PyData} : ∀ {l : List α}, (∀ a ∈ l, solid (f a) = true) → solids (l.map f) = true
 | [], _ => rfl
 | a :: l, h => by rw [List.map_cons, solids, h a List.mem_cons_self, solids_map fun x hx => h x (List.mem_cons_of_mem _ hx)]; rfl
theorem nice_map {α : Type} {f : α → PyData} {l : List α} {n b m : Nat} (h : ∀ a ∈ l, Nice n b (f a)) (hl : l.length ≤ m) : Nice (n + 1) (m * (b + 1)) (.tuple (l.map f)) := by
 refine ⟨canLayAll_map fun a ha => (h a ha).lay, ?_, ?_, ?_, ?_, ?_⟩
 · rw [PyData.showable]; exact showAll_map fun a ha => (h a ha).sh
 · rw [PyData.leavesShort]; exact shortAll_map fun a ha => (h a ha).sho
 · rw [PyData.depth]
   have := depthAll_map (f := f) (n := n) (l := l) fun a ha => (h a ha).dep
   omega
 · rw [PyData.bulk]
   have := bulkAll_map (f := f) (n := b) (l := l) fun a ha => (h a ha).bul
   exact Nat.le_trans this (Nat.mul_le_mul_right _ hl)
 · rw [solid]; exact solids_map fun a ha => (h a ha).sol
theorem Nice.okD {n b : Nat} {d : PyData} (h : Nice n b d) (hn : n ≤ 60 := by decide) : L3.okD d = true := by
 unfold L3.okD
 rw [h.lay]
 have := h.dep
 simp
 omega
theorem idx_lst {ds : List PyData} {i : Nat} {d : PyData} (h : ds[i]? = some d) : idxF (.list ds) (.int (i : Nat)) = some (.o d) := by
 show (atI ds _).map R.o = _
 rw [atI_nat (v := d) h]
 rfl
theorem add_lst {a b : List PyData} (h : a.length + b.length ≤ 16777216) : addF (.list a) (.list b) = some (.n (a ++ b)) := by
 show (if a.length + b.length ≤ sizeLine then some (R.n (a ++ b)) else none) = _
 rw [if_pos (by rw [sizeLine_eq]; exact h)]
end L3
namespace L6
structure WO {α : Type} (blt : α → α → Bool) : Prop where
 irr : ∀ a, blt a a = false
 tr : ∀ a b c, blt a b = true → blt b c = true → blt a c = true
 neg : ∀ a b c, blt a c = true → blt a b = true ∨ blt b c = true
section
variable {α : Type} {blt : α → α → Bool} {k : Nat → α}
def Rk (blt : α → α → Bool) (k : Nat → α) (a b : Nat) : Prop := blt (k a) (k b) = true ∨ (blt (k b) (k a) = false ∧ a < b)
theorem Rk.trans (W : WO blt) {a b c : Nat} (h : Rk blt k a b) (h' : Rk blt k b c) : Rk blt k a c := by
 rcases h with h | ⟨h, l⟩ <;> rcases h' with h' | ⟨h', l'⟩
 · exact .inl (W.tr _ _ _ h h')
 · rcases W.neg _ (k c) _ h with z | z
   · exact .inl z
   · rw [h'] at z; cases z
 · rcases W.neg _ (k a) _ h' with z | z
   · rw [h] at z; cases z
   · exact .inl z
 · refine .inr ⟨?_, by omega⟩
   cases e : blt (k c) (k a) with
   | false => rfl
   | true =>
     rcases W.neg _ (k b) _ e with z | z
     · rw [h'] at z; cases z
     · rw [h] at z; cases z
theorem Rk.le (W : WO blt) {a b : Nat} (h : Rk blt k a b) : blt (k b) (k a) = false := by
 rcases h with h | ⟨h, _⟩
 · cases e : blt (k b) (k a) with
   | false => rfl
   | true => have := W.tr _ _ _ h e; rw [W.irr] at this; cases this
 · exact h
theorem lt_of_le (W : WO blt) {x y z : α} (h : blt x y = true) (h' : blt z y = false) : blt x z = true := by
 rcases W.neg _ z _ h with e | e
 · exact e
 · rw [h'] at e; cases e
theorem le_lt (W : WO blt) {x y z : α} (h : blt y x = false) (h' : blt y z = true) : blt x z = true := by
 rcases W.neg _ x _ h' with e | e
 · rw [h] at e; cases e
 · exact e
theorem le_le (W : WO blt) {x y z : α} (h : blt y x = false) (h' : blt z y = false) : blt z x = false := by
 cases e : blt z x with
 | false => rfl
 | true =>
   rcases W.neg _ y _ e with q | q
   · rw [h'] at q; cases q
   · rw [h] at q; cases q
def Up (blt : α → α → Bool) (k : Nat → α) (ix : Nat → Nat) (m : Nat) : Prop := ∀ i j, i < j → j < m → Rk blt k (ix i) (ix j)
def Dn (blt : α → α → Bool) (k : Nat → α) (ix : Nat → Nat) (m : Nat) : Prop := ∀ i j, i < j → j < m → Rk blt k (ix j) (ix i)
structure Pre (ix : Nat → Nat) (m : Nat) : Prop where
 lt : ∀ i, i < m → ix i < m
 id : ∀ i, m ≤ i → ix i = i
theorem Pre.more {ix : Nat → Nat} {m n : Nat} (h : Pre ix m) (hm : m ≤ n) : Pre ix n :=
 ⟨fun i hi => by
   by_cases z : i < m
   · have := h.lt i z; omega
   · rw [h.id i (by omega)]; exact hi, fun i hi => h.id i (by omega)⟩
theorem Pre.idf : Pre (fun i => i) m := ⟨fun _ h => h, fun _ _ => rfl⟩
def mixF (ix : Nat → Nat) (i j : Nat) : Nat → Nat := fun p => if i ≤ p ∧ p < j then ix (i + j - 1 - p) else ix p
def bubF (ix : Nat → Nat) (s l : Nat) : Nat → Nat := fun p => if p = l then ix s else if l < p ∧ p ≤ s then ix (p - 1) else ix p
theorem Pre.mix {ix : Nat → Nat} {m i j : Nat} (h : Pre ix m) (hj : j ≤ m) : Pre (mixF ix i j) m := by
 refine ⟨fun p hp => ?_, fun p hp => ?_⟩
 · unfold mixF
   split
   · exact h.lt _ (by omega)
   · exact h.lt _ hp
 · unfold mixF
   rw [if_neg (by omega)]
   exact h.id p hp
theorem Pre.bub {ix : Nat → Nat} {s l : Nat} (h : Pre ix s) (hl : l ≤ s) : Pre (bubF ix s l) (s + 1) := by
 refine ⟨fun p hp => ?_, fun p hp => ?_⟩
 · unfold bubF
   split
   · rw [h.id s (Nat.le_refl _)]; omega
   · split
     · have := h.lt (p - 1) (by omega); omega
     · have := h.lt p (by omega); omega
 · unfold bubF
   rw [if_neg (by omega), if_neg (by omega)]
   exact h.id p (by omega)
theorem up_one {ix : Nat → Nat} (W : WO blt) {m : Nat} (h : Up blt k ix m) (hm : 0 < m) (n : Rk blt k (ix (m - 1)) (ix m)) : Up blt k ix (m + 1) := fun i j hij hj => by
 by_cases e : j < m
 · exact h i j hij e
 · have : j = m := by omega
   subst this
   by_cases e2 : i = j - 1
   · subst e2; exact n
   · exact (h i (j - 1) (by omega) (by omega)).trans W n
theorem up_mix {ix : Nat → Nat} {m : Nat} (h : Dn blt k ix m) : Up blt k (mixF ix 0 m) m := fun i j hij hj => by
 unfold mixF
 rw [if_pos (by omega), if_pos (by omega)]
 exact h _ _ (by omega) (by omega)
theorem up_bub {ix : Nat → Nat} {s l : Nat} (h : Up blt k ix s) (p : Pre ix s) (hl : l ≤ s) (lo : ∀ i, i < l → blt (k s) (k (ix i)) = false) (hi : ∀ i, l ≤ i → i < s → blt (k s) (k (ix i)) = true) : Up blt k (bubF ix s l) (s + 1) := by
 have es := p.id s (Nat.le_refl _)
 intro i j hij hj
 unfold bubF
 by_cases a : i = l
 · rw [if_pos a, if_neg (by omega), if_pos (by omega), es]
   exact .inl (hi _ (by omega) (by omega))
 · rw [if_neg a]
   by_cases b : l < i ∧ i ≤ s
   · rw [if_pos b, if_neg (by omega), if_pos (by omega)]
     exact h _ _ (by omega) (by omega)
   · rw [if_neg b]
     by_cases c : j = l
     · rw [if_pos c, es]
       exact .inr ⟨lo i (by omega), p.lt i (by omega)⟩
     · rw [if_neg c]
       by_cases d : l < j ∧ j ≤ s
       · rw [if_pos d]
         exact h _ _ (by omega) (by omega)
       · rw [if_neg d]
         exact h _ _ (by omega) (by omega)
structure Des (blt : α → α → Bool) (k : Nat → α) (ix : Nat → Nat) (m q : Nat) : Prop where
 le : q + 1 ≤ m
 up : ∀ i j, i < j → j < m → i + (q + 1) < m → Rk blt k (ix j) (ix i)
 far : ∀ i j, i + (q + 1) < m → m ≤ j + (q + 1) → j < m → blt (k (ix j)) (k (ix i)) = true
 al : ∀ i j, m ≤ i + (q + 1) → i < j → j < m → blt (k (ix i)) (k (ix j)) = false ∧ blt (k (ix j)) (k (ix i)) = false ∧ ix i < ix j
theorem Des.turn {ix : Nat → Nat} {m q : Nat} (h : Des blt k ix m q) : Dn blt k (mixF ix (m - (q + 1)) m) m := by
 intro i j hij hj
 have := h.le
 unfold mixF
 by_cases a : m - (q + 1) ≤ i ∧ i < m
 · rw [if_pos a, if_pos (by omega)]
   obtain ⟨h1, h2, h3⟩ := h.al (m - (q + 1) + m - 1 - j) (m - (q + 1) + m - 1 - i) (by omega) (by omega) (by omega)
   exact .inr ⟨h2, h3⟩
 · rw [if_neg a]
   by_cases b : m - (q + 1) ≤ j ∧ j < m
   · rw [if_pos b]
     exact h.up _ _ (by omega) (by omega) (by omega)
   · rw [if_neg b]
     exact h.up _ _ hij hj (by omega)
theorem Des.dn {ix : Nat → Nat} {m : Nat} (h : Des blt k ix m 0) : Dn blt k ix m := fun i j hij hj => h.up i j hij hj (by omega)
theorem des_one {ix : Nat → Nat} (W : WO blt) {m : Nat} (h : Dn blt k ix m) (hm : 0 < m) (n : blt (k (ix m)) (k (ix (m - 1))) = true) : Des blt k ix (m + 1) 0 := by
 have hb : ∀ i, i < m → blt (k (ix m)) (k (ix i)) = true := fun i hi => by
   by_cases e : i = m - 1
   · subst e; exact n
   · exact lt_of_le W n ((h i (m - 1) (by omega) (by omega)).le W)
 refine ⟨by omega, fun i j hij hj _ => ?_, fun i j h1 h2 h3 => ?_, fun i j h1 h2 h3 => by omega⟩
 · by_cases e : j < m
   · exact h i j hij e
   · have : j = m := by omega
     subst this
     exact .inl (hb i hij)
 · have : j = m := by omega
   subst this
   exact hb i (by omega)
theorem des_al {ix : Nat → Nat} (W : WO blt) {m q : Nat} (h : Des blt k ix m q) (p : Pre ix m) (n1 : blt (k (ix m)) (k (ix (m - 1))) = false) (n2 : blt (k (ix (m - 1))) (k (ix m)) = false) : Des blt k ix (m + 1) (q + 1) := by
 have hl := h.le
 have em := p.id m (Nat.le_refl _)
 have key : ∀ i, m ≤ i + (q + 1) → i < m → blt (k (ix i)) (k (ix m)) = false ∧ blt (k (ix m)) (k (ix i)) = false := fun i h1 h2 => by
   by_cases e : i = m - 1
   · subst e; exact ⟨n2, n1⟩
   · obtain ⟨a, b, _⟩ := h.al i (m - 1) h1 (by omega) (by omega)
     exact ⟨le_le W n2 a, le_le W b n1⟩
 refine ⟨by omega, fun i j hij hj hi => ?_, fun i j h1 h2 h3 => ?_, fun i j h1 h2 h3 => ?_⟩
 · by_cases e : j < m
   · exact h.up i j hij e (by omega)
   · have : j = m := by omega
     subst this
     exact .inl (le_lt W n2 (h.far i (j - 1) (by omega) (by omega) (by omega)))
 · by_cases e : j < m
   · exact h.far i j (by omega) (by omega) e
   · have : j = m := by omega
     subst this
     exact le_lt W n2 (h.far i (j - 1) (by omega) (by omega) (by omega))
 · by_cases e : j < m
   · exact h.al i j (by omega) h2 e
   · have : j = m := by omega
     subst this
     obtain ⟨a, b⟩ := key i (by omega) h2
     refine ⟨a, b, ?_⟩
     rw [em]
     exact p.lt i h2
structure Bij (ix : Nat → Nat) (n : Nat) : Prop where
 lt : ∀ i, i < n → ix i < n
 inj : ∀ i j, i < n → j < n → ix i = ix j → i = j
 sur : ∀ p, p < n → ∃ i, i < n ∧ ix i = p
theorem Bij.idf {n : Nat} : Bij (fun i => i) n := ⟨fun _ h => h, fun _ _ _ _ e => e, fun p h => ⟨p, h, rfl⟩⟩
theorem Bij.comp {ix f : Nat → Nat} {n : Nat} (h : Bij ix n) (g : Bij f n) : Bij (fun p => ix (f p)) n :=
 ⟨fun i hi => h.lt _ (g.lt i hi), fun i j hi hj e => g.inj i j hi hj (h.inj _ _ (g.lt i hi) (g.lt j hj) e), fun p hp => by
   obtain ⟨i, hi, e⟩ := h.sur p hp
   obtain ⟨j, hj, e'⟩ := g.sur i hi
   exact ⟨j, hj, by rw [e', e]⟩⟩
theorem Bij.of {f g : Nat → Nat} {n : Nat} (a : ∀ i, i < n → f i < n) (b : ∀ i, i < n → g i < n) (c : ∀ i, i < n → g (f i) = i) (d : ∀ i, i < n → f (g i) = i) : Bij f n :=
 ⟨a, fun i j hi hj e => by rw [← c i hi, e, c j hj], fun p hp => ⟨g p, b p hp, d p hp⟩⟩
def swF (i j p : Nat) : Nat := if i ≤ p ∧ p < j then i + j - 1 - p else p
def bbF (s l p : Nat) : Nat := if p = l then s else if l < p ∧ p ≤ s then p - 1 else p
def bbG (s l p : Nat) : Nat := if p = s then l else if l ≤ p ∧ p < s then p + 1 else p
theorem swF_lt {i j n p : Nat} (hj : j ≤ n) (hp : p < n) : swF i j p < n := by unfold swF; split <;> omega
theorem swF_sw (i j p : Nat) : swF i j (swF i j p) = p := by
 unfold swF
 by_cases a : i ≤ p ∧ p < j
 · rw [if_pos a, if_pos (by omega)]; omega
 · rw [if_neg a, if_neg a]
theorem Bij.mix {ix : Nat → Nat} {n i j : Nat} (h : Bij ix n) (hj : j ≤ n) : Bij (mixF ix i j) n := by
 have e : mixF ix i j = fun p => ix (swF i j p) := by
   funext p
   unfold mixF swF
   split <;> rfl
 rw [e]
 exact h.comp (.of (g := swF i j) (fun p hp => swF_lt hj hp) (fun p hp => swF_lt hj hp) (fun p _ => swF_sw i j p) fun p _ => swF_sw i j p)
theorem Bij.bub {ix : Nat → Nat} {n s l : Nat} (h : Bij ix n) (hs : s < n) (hl : l ≤ s) : Bij (bubF ix s l) n := by
 have e : bubF ix s l = fun p => ix (bbF s l p) := by
   funext p
   unfold bubF bbF
   split
   · rfl
   · split <;> rfl
 rw [e]
 refine h.comp (.of (g := bbG s l) (fun p hp => ?_) (fun p hp => ?_) (fun p hp => ?_) fun p hp => ?_)
 · unfold bbF; repeat' split
   all_goals omega
 · unfold bbG; repeat' split
   all_goals omega
 · unfold bbF bbG; repeat' split
   all_goals omega
 · unfold bbF bbG; repeat' split
   all_goals omega
theorem Bij.perm {ix : Nat → Nat} {n : Nat} (h : Bij ix n) : ((List.range n).map ix).Perm (List.range n) := by
 rw [List.perm_iff_count]
 intro a
 have nd : ((List.range n).map ix).Nodup := by
   unfold List.Nodup
   rw [List.pairwise_map, List.pairwise_iff_getElem]
   intro i j hi hj hij e
   rw [List.length_range] at hi hj
   rw [List.getElem_range, List.getElem_range] at e
   have := h.inj i j hi hj e
   omega
 rw [nd.count, List.nodup_range.count]
 have : (a ∈ (List.range n).map ix) ↔ a ∈ List.range n := by
   rw [List.mem_map, List.mem_range]
   constructor
   · rintro ⟨i, hi, rfl⟩
     exact h.lt i (List.mem_range.mp hi)
   · intro ha
     obtain ⟨i, hi, e⟩ := h.sur a ha
     exact ⟨i, List.mem_range.mpr hi, e⟩
 by_cases z : a ∈ List.range n
 · rw [if_pos z, if_pos (this.mpr z)]
 · rw [if_neg z, if_neg fun q => z (this.mp q)]
theorem zip_rng {γ : Type} (g : Nat → γ) (n : Nat) : ((List.range n).map g).zipIdx = (List.range n).map fun i => (g i, i) := by
 refine List.ext_getElem (by simp) fun i h1 h2 => ?_
 simp
theorem stable_out {γ : Type} {key : γ → α} {g : Nat → γ} {n : Nat} {ix : Nat → Nat} (W : WO blt) (up : Up blt (fun i => key (g i)) ix n) (b : Bij ix n) :
   (List.range n).map (fun i => g (ix i)) = ((List.range n).map g).mergeSort (fun p q => !blt (key q) (key p)) := by
 rw [← List.mergeSort_zipIdx, zip_rng]
 have e : (List.range n).map (fun i => g (ix i)) = ((List.range n).map fun i => (g (ix i), ix i)).map (·.1) := by rw [List.map_map]; rfl
 rw [e]
 refine congrArg (List.map (fun x : γ × Nat => x.1)) ?_
 have tr : ∀ a b c : γ, (!blt (key b) (key a)) = true → (!blt (key c) (key b)) = true → (!blt (key c) (key a)) = true := fun a b c h1 h2 => by
   rw [Bool.not_eq_true'] at h1 h2 ⊢
   exact le_le W h1 h2
 have tt : ∀ a b : γ, ((!blt (key b) (key a)) || (!blt (key a) (key b))) = true := fun a b => by
   cases h1 : blt (key b) (key a) with
   | false => rfl
   | true =>
     cases h2 : blt (key a) (key b) with
     | false => rfl
     | true => have := W.tr _ _ _ h1 h2; rw [W.irr] at this; cases this
 have m1 : ∀ x, x ∈ ((List.range n).map fun i => (g (ix i), ix i)) → x.1 = g x.2 := fun x hx => by
   obtain ⟨i, _, rfl⟩ := List.mem_map.mp hx
   rfl
 have m2 : ∀ x, x ∈ (((List.range n).map fun i => (g i, i)).mergeSort (List.zipIdxLE fun p q => !blt (key q) (key p))) → x.1 = g x.2 := fun x hx => by
   rw [(List.mergeSort_perm _ _).mem_iff] at hx
   obtain ⟨i, _, rfl⟩ := List.mem_map.mp hx
   rfl
 refine List.Perm.eq_of_pairwise (le := fun a b => List.zipIdxLE (fun p q => !blt (key q) (key p)) a b = true) (fun x y hx hy h1 h2 => ?_) ?_ (List.pairwise_mergeSort (List.zipIdxLE_trans tr) (List.zipIdxLE_total tt) _) ?_
 · have e1 := m1 x hx
   have e2 := m2 y hy
   have e3 : x.2 = y.2 := by
     unfold List.zipIdxLE at h1 h2
     dsimp only at h1 h2
     cases a : blt (key y.1) (key x.1) <;> cases c : blt (key x.1) (key y.1) <;> simp [a, c] at h1 h2
     omega
   exact Prod.ext (by rw [e1, e2, e3]) e3
 · rw [List.pairwise_map, List.pairwise_iff_getElem]
   intro i j hi hj hij
   rw [List.length_range] at hi hj
   rw [List.getElem_range, List.getElem_range]
   have r := up i j hij hj
   have rl := r.le W
   unfold List.zipIdxLE
   have key2 : ∀ (x y : Bool) (d : Bool), x = false → (y = true ∨ d = true) → (if (!x) = true then (if (!y) = true then d else true) else false) = true := by
     intro x y d hx hy
     subst hx
     cases y
     · rcases hy with hy | hy
       · cases hy
       · simpa using hy
     · rfl
   refine key2 _ _ _ rl ?_
   rcases r with r | ⟨r, l⟩
   · exact .inl r
   · exact .inr (decide_eq_true (Nat.le_of_lt l))
 · refine List.Perm.trans ?_ (List.mergeSort_perm _ _).symm
   have := b.perm.map fun i => (g i, i)
   rw [List.map_map] at this
   exact this
end
end L6
namespace L6
open PySem PyProof.Rows
section
variable {prog : Program} {w : World} {A : Around} {E : Value → Shared → Prop} {s : Shared} {α : Type} {blt : α → α → Bool} {k : Nat → α} {a₀ : Array Keyed} {kd : SortKind} {ix : Nat → Nat} {st : SortSt}
def CmpOk (prog : Program) (w : World) (A : Around) (s : Shared) (kd : SortKind) (a₀ : Array Keyed) (blt : α → α → Bool) (k : Nat → α) : Prop :=
 ∀ (i j : Nat) (x p y q : Value) (E : Value → Shared → Prop) (Q : Bool → Shared → Prop), a₀[i]? = some (x, p) → a₀[j]? = some (y, q) → Q (blt (k i) (k j)) s → wpAny (model prog w) A (keyLt' kd x y) Q E s
structure Sb (a₀ : Array Keyed) (kd : SortKind) (ix : Nat → Nat) (st : SortSt) : Prop where
 sz : (arrOf st).size = a₀.size
 at_ : ∀ i, i < a₀.size → (arrOf st)[i]? = a₀[ix i]?
 bj : Bij ix a₀.size
 fa : failedOf st = none
 pe : pendingOf st = #[]
 ki : kindOf st = kd
theorem lt_at {i j : Nat} {Q : Option Bool → SortSt → Prop} (hC : CmpOk prog w A s kd a₀ blt k) (b : Sb a₀ kd ix st) (hi : i < a₀.size) (hj : j < a₀.size) (h : Q (some (blt (k (ix i)) (k (ix j)))) st) : wpS (model prog w) A E s (ltAt' i j) Q st := by
 obtain ⟨⟨x, p⟩, gi⟩ : ∃ z, a₀[ix i]? = some z := ⟨_, Array.getElem?_eq_getElem (b.bj.lt i hi)⟩
 obtain ⟨⟨y, q⟩, gj⟩ : ∃ z, a₀[ix j]? = some z := ⟨_, Array.getElem?_eq_getElem (b.bj.lt j hj)⟩
 rw [ltAt'_eq]
 refine wpS_bind (wpS_get ?_)
 change wpS (model prog w) A E s (elem' (arrOf st) i >>= fun x => elem' (arrOf st) j >>= fun y => lt' x y) Q st
 rw [elem'_eq, elem'_eq, b.at_ i hi, b.at_ j hj, gi, gj]
 refine wpS_bind (wpS_pure (wpS_bind (wpS_pure ?_)))
 rw [lt'_eq]
 refine wpS_bind (wpS_get ?_)
 rw [b.ki]
 refine wpS_bind (wpS_lift (wpAny_attempt (hC _ _ _ _ _ _ _ _ gi gj ⟨rfl, ?_⟩)))
 exact wpS_pure h
theorem Sb.mix {i j : Nat} (b : Sb a₀ kd ix st) (hj : j ≤ a₀.size) : Sb a₀ kd (mixF ix i j) (setArr st (mirror (arrOf st) i j ((j - i) / 2))) := by
 refine ⟨(mirror_size _ _ _ _).trans b.sz, fun p hp => ?_, b.bj.mix hj, b.fa, b.pe, b.ki⟩
 show (mirror (arrOf st) i j ((j - i) / 2))[p]? = _
 rw [getElem?_mirror_all (by rw [b.sz]; exact hj)]
 unfold mixF
 split
 · exact b.at_ _ (by omega)
 · exact b.at_ _ hp
theorem Sb.bub {q l : Nat} (b : Sb a₀ kd ix st) (hq : q < a₀.size) (hl : l ≤ q) : Sb a₀ kd (bubF ix q l) (setArr st (bubble (arrOf st) q (q - l))) := by
 refine ⟨(bubble_size _ _ _).trans b.sz, fun p hp => ?_, b.bj.bub hq hl, b.fa, b.pe, b.ki⟩
 show (bubble (arrOf st) q (q - l))[p]? = _
 rw [getElem?_bubble (by rw [b.sz]; exact hq) _ (by omega), show q - (q - l) = l by omega]
 unfold bubF
 split
 · exact b.at_ _ hq
 · split
   · exact b.at_ _ (by omega)
   · exact b.at_ _ hp
theorem bin_st {n ok : Nat} {Q : Bool → SortSt → Prop} (W : WO blt) (hC : CmpOk prog w A s kd a₀ blt k) (hn : n ≤ a₀.size) (hok : ok ≤ n) (h1 : 1 ≤ ok) (b : Sb a₀ kd ix st) (up : Up blt k ix ok) (pr : Pre ix ok)
   (h : ∀ ix' st', Sb a₀ kd ix' st' → Up blt k ix' n → Q true st') : wpS (model prog w) A E s (binarySort' 0 n ok) Q st := by
 rw [binarySort'_eq]
 simp only [Nat.zero_add]
 rw [show max ok 1 = ok by omega]
 refine wpS_bind (wpS_mono (wpS_forRange (I := fun q c st' => c = (none, ()) ∧ ∃ ix', Sb a₀ kd ix' st' ∧ Up blt k ix' q ∧ Pre ix' q) (Q := fun c st' => c = (none, ()) ∧ ∃ ix', Sb a₀ kd ix' st' ∧ Up blt k ix' n) ?turn ?out ⟨rfl, ix, b, up, pr⟩) ?rest)
 case rest =>
   rintro c st' ⟨rfl, ix', b', u'⟩
   exact wpS_pure (h ix' st' b' u')
 case out =>
   rintro c st' ⟨hc, ix', b', u', _⟩
   rw [show max ok n = n by omega] at u'
   exact ⟨hc, ix', b', u'⟩
 case turn =>
   rintro q c st' hq1 hq2 ⟨rfl, ix', b', u', p'⟩
   have hq : q < a₀.size := by omega
   have eq := p'.id q (Nat.le_refl _)
   refine wpS_bind (wpS_mono (wpS_forRange (I := fun x c st2 => st2 = st' ∧ ∃ l r, c = (none, l, r) ∧ l ≤ r ∧ r ≤ q ∧ r - l ≤ q - x ∧ (∀ i, i < l → blt (k q) (k (ix' i)) = false) ∧ ∀ i, r ≤ i → i < q → blt (k q) (k (ix' i)) = true)
     (Q := fun c st2 => st2 = st' ∧ ∃ l r, c = (none, l, r) ∧ l ≤ q ∧ (∀ i, i < l → blt (k q) (k (ix' i)) = false) ∧ ∀ i, l ≤ i → i < q → blt (k q) (k (ix' i)) = true) ?tu ?ou ?bg) ?re)
   case bg => exact ⟨rfl, 0, q, rfl, by omega, Nat.le_refl _, by omega, fun i z => absurd z (by omega), fun i z z' => absurd z (by omega)⟩
   case ou =>
     rintro c st2 ⟨rfl, l, r, rfl, z1, z2, z3, z4, z5⟩
     have : l = r := by omega
     subst this
     exact ⟨rfl, l, l, rfl, z2, z4, z5⟩
   case tu =>
     rintro x c st2 _ hx ⟨rfl, l, r, rfl, z1, z2, z3, z4, z5⟩
     dsimp only
     by_cases ge : l ≥ r
     · rw [if_pos ge]
       have : l = r := by omega
       subst this
       exact wpS_pure ⟨rfl, l, l, rfl, z2, z4, z5⟩
     · rw [if_neg ge]
       refine wpS_bind (lt_at hC b' hq (j := (l + r) / 2) (by omega) ?_)
       rw [eq]
       cases le : blt (k q) (k (ix' ((l + r) / 2))) with
       | true =>
         simp only [if_true]
         refine wpS_pure ⟨rfl, l, (l + r) / 2, rfl, by omega, by omega, by omega, z4, fun i y1 y2 => ?_⟩
         by_cases e : i = (l + r) / 2
         · subst e; exact le
         · exact lt_of_le W le ((u' _ _ (show (l + r) / 2 < i by omega) y2).le W)
       | false =>
         simp only [Bool.false_eq_true, if_false]
         refine wpS_pure ⟨rfl, (l + r) / 2 + 1, r, rfl, by omega, by omega, by omega, fun i y1 => ?_, z5⟩
         by_cases e : i = (l + r) / 2
         · subst e; exact le
         · exact le_le W ((u' i _ (show i < (l + r) / 2 by omega) (by omega)).le W) le
   case re =>
     rintro c st2 ⟨rfl, l, r, rfl, z2, z4, z5⟩
     change wpS (model prog w) A E s (moveDown' q l >>= fun _ => pure (ForInStep.yield (none, ()))) _ st2
     rw [moveDown'_eq]
     exact wpS_bind (wpS_modify (wpS_pure ⟨rfl, bubF ix' q l, b'.bub hq z2, up_bub u' p' z2 z4 z5, p'.bub z2⟩))
theorem asc_st {a n : Nat} {Q : AscSt → SortSt → Prop} (W : WO blt) (hC : CmpOk prog w A s kd a₀ blt k) (hn : n ≤ a₀.size) (ha : 1 ≤ a) (han : a ≤ n) (b : Sb a₀ kd ix st) (up : Up blt k ix a) (pr : Pre ix a)
   (h : ∀ m, a ≤ m → m ≤ n → Up blt k ix m → (m = n ∨ blt (k (ix m)) (k (ix (m - 1))) = true) → Q (none, m) st) : wpS (model prog w) A E s (ascLoop a n) Q st := by
 unfold ascLoop
 refine wpS_forRange (I := fun x c st' => st' = st ∧ c = (none, x) ∧ Up blt k ix x) ?turn ?out ⟨rfl, rfl, up⟩
 case out =>
   rintro c st' ⟨rfl, rfl, u⟩
   rw [show max a n = n by omega] at u ⊢
   exact h n han (Nat.le_refl _) u (.inl rfl)
 case turn =>
   rintro x c st' h1 h2 ⟨rfl, rfl, u⟩
   dsimp only
   refine wpS_bind (lt_at hC b (by omega) (by omega) ?_)
   cases le : blt (k (ix x)) (k (ix (x - 1))) with
   | true =>
     simp only [if_true]
     exact wpS_pure (h x h1 (by omega) u (.inr le))
   | false =>
     simp only [Bool.false_eq_true, if_false]
     refine wpS_pure ⟨rfl, rfl, up_one W u (by omega) (.inr ⟨le, ?_⟩)⟩
     rw [(pr.more h1).id x (Nat.le_refl _)]
     exact (pr.more h1).lt _ (by omega)
theorem tail_st {m n : Nat} {Q : Option Nat → SortSt → Prop} (W : WO blt) (hC : CmpOk prog w A s kd a₀ blt k) (hn : n ≤ a₀.size) (h1 : 1 ≤ m) (hm : m ≤ n) (b : Sb a₀ kd ix st) (dn : Dn blt k ix m) (pr : Pre ix m)
   (h : ∀ m' ix' st', Sb a₀ kd ix' st' → 1 ≤ m' → m' ≤ n → Up blt k ix' m' → Pre ix' m' → Q (some m') st') : wpS (model prog w) A E s (tail3 m n) Q st := by
 unfold tail3
 refine wpS_bind (wpS_reverse ?_)
 have b' := b.mix (i := 0) (j := m) (by omega)
 have p' := pr.mix (i := 0) (Nat.le_refl m)
 exact wpS_bind (asc_st W hC hn h1 hm b' (up_mix dn) p' fun m' z1 z2 u _ => wpS_pure (h m' _ _ b' (by omega) z2 u (p'.more z1)))
theorem desc_st {m n : Nat} {Q : DescSt → SortSt → Prop} (W : WO blt) (hC : CmpOk prog w A s kd a₀ blt k) (hn : n ≤ a₀.size) (hm : m ≤ n) (b : Sb a₀ kd ix st) (de : Des blt k ix m 0) (pr : Pre ix m)
   (h : ∀ m' q ix' st', Sb a₀ kd ix' st' → m ≤ m' → m' ≤ n → Des blt k ix' m' q → Pre ix' m' → Q (none, m', q) st') : wpS (model prog w) A E s (descLoop m n) Q st := by
 unfold descLoop
 refine wpS_forRange (I := fun x c st' => ∃ q ix', c = (none, x, q) ∧ Sb a₀ kd ix' st' ∧ Des blt k ix' x q ∧ Pre ix' x) ?turn ?out ⟨0, ix, rfl, b, de, pr⟩
 case out =>
   rintro c st' ⟨q, ix', rfl, b', d', p'⟩
   rw [show max m n = n by omega] at d' p' ⊢
   exact h n q ix' st' b' hm (Nat.le_refl _) d' p'
 case turn =>
   rintro x c st' h1 h2 ⟨q, ix', rfl, b', d', p'⟩
   dsimp only
   have hq := d'.le
   refine wpS_bind (lt_at hC b' (by omega) (by omega) ?_)
   cases le : blt (k (ix' x)) (k (ix' (x - 1))) with
   | true =>
     simp only [if_true]
     by_cases z : q > 0
     · rw [if_pos z]
       refine wpS_bind (wpS_reverse (wpS_pure ⟨0, _, rfl, b'.mix (by omega), ?_, (p'.mix (Nat.le_refl _)).more (by omega)⟩))
       refine des_one W d'.turn (by omega) ?_
       have e1 : mixF ix' (x - (q + 1)) x x = ix' x := by unfold mixF; rw [if_neg (by omega)]
       have e2 : mixF ix' (x - (q + 1)) x (x - 1) = ix' (x - (q + 1)) := by unfold mixF; rw [if_pos (by omega)]; congr 1; omega
       rw [e1, e2]
       have := d'.al (x - (q + 1)) (x - 1) (by omega) (by omega) (by omega)
       exact lt_of_le W le this.1
     · rw [if_neg z]
       have : q = 0 := by omega
       subst this
       exact wpS_pure ⟨0, ix', rfl, b', des_one W d'.dn (by omega) le, p'.more (by omega)⟩
   | false =>
     simp only [Bool.false_eq_true, if_false]
     refine wpS_bind (lt_at hC b' (by omega) (by omega) ?_)
     cases gr : blt (k (ix' (x - 1))) (k (ix' x)) with
     | true =>
       simp only [if_true]
       exact wpS_pure (h x q ix' st' b' h1 (by omega) d' p')
     | false =>
       simp only [Bool.false_eq_true, if_false]
       exact wpS_pure ⟨q + 1, ix', rfl, b', des_al W d' p' le gr, p'.more (by omega)⟩
theorem part_st {m n : Nat} {Q : Option Nat → SortSt → Prop} (W : WO blt) (hC : CmpOk prog w A s kd a₀ blt k) (hn : n ≤ a₀.size) (hm : m + 1 ≤ n) (b : Sb a₀ kd ix st) (de : Des blt k ix (m + 1) 0) (pr : Pre ix (m + 1))
   (h : ∀ m' ix' st', Sb a₀ kd ix' st' → 1 ≤ m' → m' ≤ n → Up blt k ix' m' → Pre ix' m' → Q (some m') st') : wpS (model prog w) A E s (descPart m n) Q st := by
 unfold descPart
 refine wpS_bind (wpS_lift (wpAny_rule ⟨rfl, ?_⟩))
 refine wpS_bind (desc_st W hC hn hm b de pr fun m' q ix' st' b' z1 z2 d' p' => ?_)
 dsimp only
 by_cases z : q > 0
 · rw [if_pos z]
   exact wpS_bind (wpS_reverse (tail_st W hC hn (by omega) z2 (b'.mix (by omega)) d'.turn (p'.mix (Nat.le_refl _)) h))
 · rw [if_neg z]
   have : q = 0 := by omega
   subst this
   exact tail_st W hC hn (by omega) z2 b' d'.dn p' h
theorem run_st {n : Nat} {Q : Option Nat → SortSt → Prop} (W : WO blt) (hC : CmpOk prog w A s kd a₀ blt k) (hn : n ≤ a₀.size) (h1 : 1 ≤ n) (b : Sb a₀ kd (fun i => i) st)
   (h : ∀ m' ix' st', Sb a₀ kd ix' st' → 1 ≤ m' → m' ≤ n → Up blt k ix' m' → Pre ix' m' → Q (some m') st') : wpS (model prog w) A E s (countRun' 0 n) Q st := by
 rw [countRun0_eq]
 refine wpS_bind (asc_st W hC hn (Nat.le_refl 1) h1 b (fun i j z z' => absurd z (by omega)) Pre.idf fun m z1 z2 u o => ?_)
 dsimp only
 by_cases e : m = n
 · rw [if_pos (by simpa using e)]
   exact wpS_pure (h m _ st b z1 z2 u Pre.idf)
 · rw [if_neg (by simpa using e)]
   have lt := o.resolve_left e
   by_cases g : m > 1
   · rw [if_pos g]
     refine wpS_bind (lt_at hC b (i := 0) (j := m - 1) (by omega) (by omega) ?_)
     cases ro : blt (k 0) (k (m - 1)) with
     | true =>
       simp only [if_true]
       exact wpS_pure (h m _ st b z1 z2 u Pre.idf)
     | false =>
       simp only [Bool.false_eq_true, if_false]
       refine wpS_bind (wpS_reverse (part_st W hC hn (by omega) (b.mix (by omega)) ?_ ((Pre.idf.mix (Nat.le_refl m)).more (by omega)) h))
       have al : ∀ i j, i < j → j < m → blt (k j) (k i) = false ∧ blt (k i) (k j) = false := fun i j y1 y2 => by
         refine ⟨(u i j y1 y2).le W, ?_⟩
         have a1 : blt (k i) (k 0) = false := by
           by_cases q : i = 0
           · subst q; exact W.irr _
           · exact (u 0 i (by omega) (by omega)).le W
         have a2 : blt (k (m - 1)) (k j) = false := by
           by_cases q : j = m - 1
           · subst q; exact W.irr _
           · exact (u j (m - 1) (by omega) (by omega)).le W
         exact le_le W (le_le W a2 ro) a1
       refine des_one W (fun i j y1 y2 => ?_) (by omega) ?_
       · have e1 : mixF (fun i => i) 0 m i = m - 1 - i := by unfold mixF; rw [if_pos (by omega)]; show 0 + m - 1 - i = m - 1 - i; omega
         have e2 : mixF (fun i => i) 0 m j = m - 1 - j := by unfold mixF; rw [if_pos (by omega)]; show 0 + m - 1 - j = m - 1 - j; omega
         rw [e1, e2]
         exact .inr ⟨(al _ _ (by omega) (by omega)).1, by omega⟩
       · have e1 : mixF (fun i => i) 0 m m = m := by unfold mixF; rw [if_neg (by omega)]
         have e2 : mixF (fun i => i) 0 m (m - 1) = 0 := by unfold mixF; rw [if_pos (by omega)]; show 0 + m - 1 - (m - 1) = 0; omega
         rw [e1, e2]
         exact lt_of_le W lt ro
   · rw [if_neg g]
     have : m = 1 := by omega
     subst this
     refine part_st W hC hn (by omega) b (des_one W (fun i j y1 y2 => absurd y1 (by omega)) (by omega) lt) Pre.idf h
theorem runs_st {Q : Unit → SortSt → Prop} (W : WO blt) (hC : CmpOk prog w A s kd a₀ blt k) (b : Sb a₀ kd (fun i => i) st) (h2 : 2 ≤ a₀.size) (h64 : a₀.size < 64)
   (h : ∀ ix' st', (arrOf st').size = a₀.size → (∀ i, i < a₀.size → (arrOf st')[i]? = a₀[ix' i]?) → Bij ix' a₀.size → failedOf st' = none → Up blt k ix' a₀.size → Q () st') : wpS (model prog w) A E s sortRuns' Q st := by
 rw [sortRuns'_eq]
 refine wpS_bind (wpS_get ?_)
 dsimp only
 have mr : minRun' a₀.size a₀.size 0 = a₀.size := by
   have key : ∀ f n : Nat, n < 64 → minRun' (f + 1) n 0 = n := fun f n hn => by rw [minRun'_succ, if_pos hn]; rfl
   have := key (a₀.size - 1) a₀.size h64
   rwa [show a₀.size - 1 + 1 = a₀.size by omega] at this
 simp only [b.sz, mr]
 let Fin' : SortSt → Prop := fun st' => ∃ ix', (arrOf st').size = a₀.size ∧ (∀ i, i < a₀.size → (arrOf st')[i]? = a₀[ix' i]?) ∧ Bij ix' a₀.size ∧ failedOf st' = none ∧ pendingOf st' = #[(0, a₀.size, 0)] ∧ Up blt k ix' a₀.size
 have fin : ∀ ix' st', Sb a₀ kd ix' st' → Up blt k ix' a₀.size → Fin' (setPending st' ((pendingOf st').push (0, a₀.size, 0))) := fun ix' st' b' u' =>
   ⟨ix', b'.sz, b'.at_, b'.bj, b'.fa, by show (pendingOf st').push _ = _; rw [b'.pe]; rfl, u'⟩
 refine wpS_bind (wpS_mono (wpS_forRange (I := fun x c st' => (x = 0 ∧ c = (none, 0) ∧ Sb a₀ kd (fun i => i) st') ∨ (1 ≤ x ∧ c = (none, a₀.size) ∧ Fin' st')) (Q := fun c st' => c = (none, a₀.size) ∧ Fin' st') ?turn ?out (.inl ⟨rfl, rfl, b⟩)) ?rest)
 case out =>
   rintro c st' (⟨z, _, _⟩ | ⟨_, z, f⟩)
   · omega
   · exact ⟨z, f⟩
 case turn =>
   rintro x c st' _ hx (⟨rfl, rfl, b'⟩ | ⟨_, rfl, f⟩)
   · dsimp only
     rw [if_neg (by omega)]
     simp only [Nat.sub_zero, Nat.min_self, Nat.zero_add]
     refine wpS_bind (run_st W hC (Nat.le_refl _) (by omega) b' fun m ix2 st2 b2 z1 z2 u2 p2 => ?_)
     dsimp only
     by_cases lt : m < a₀.size
     · rw [if_pos lt]
       refine wpS_bind (wpS_lift (wpAny_rule ⟨rfl, ?_⟩))
       refine wpS_bind (bin_st W hC (Nat.le_refl _) z2 z1 b2 u2 p2 fun ix3 st3 b3 u3 => ?_)
       simp only [Bool.not_true, Bool.false_eq_true, if_false]
       refine wpS_bind (wpS_get ?_)
       rw [show (pendingOf st3).back? = none by rw [b3.pe]; rfl]
       dsimp only
       exact wpS_bind (wpS_modify (wpS_pure (.inr ⟨by omega, rfl, fin ix3 st3 b3 u3⟩)))
     · rw [if_neg lt]
       have : m = a₀.size := by omega
       subst this
       refine wpS_bind (wpS_get ?_)
       rw [show (pendingOf st2).back? = none by rw [b2.pe]; rfl]
       dsimp only
       exact wpS_bind (wpS_modify (wpS_pure (.inr ⟨by omega, rfl, fin ix2 st2 b2 u2⟩)))
   · dsimp only
     rw [if_pos (Nat.le_refl _)]
     exact wpS_pure ⟨rfl, f⟩
 case rest =>
   rintro c st' ⟨rfl, ix', z1, z2, z3, z4, z5, z6⟩
   dsimp only
   refine wpS_bind (wpS_mono (wpS_forRange (I := fun _ c st2 => st2 = st' ∧ c = (none, ())) (Q := fun c st2 => st2 = st' ∧ c = (none, ())) ?_ (fun _ _ y => y) ⟨rfl, rfl⟩) ?_)
   · rintro x c st2 _ _ ⟨rfl, rfl⟩
     refine wpS_bind (wpS_get ?_)
     rw [if_pos (by rw [z5]; exact Nat.le_refl 1)]
     exact wpS_pure ⟨rfl, rfl⟩
   · rintro c st2 ⟨rfl, rfl⟩
     exact wpS_pure (h ix' _ z1 z2 z3 z4 z6)
end
end L6
namespace L6
open PySem PyProof.Rows
section
variable {prog : Program} {w : World} {A : Around} {E : Value → Shared → Prop} {s : Shared}
structure Ord {α : Type} (blt : α → α → Bool) (k : Nat → α) (n : Nat) (ix : Nat → Nat) : Prop where
 bj : Bij ix n
 up : Up blt k ix n
def pickV (vs : List Value) (ix : Nat → Nat) : List Value := (List.range vs.length).map fun i => vs.getD (ix i) .none
structure KeysOk {α : Type} (prog : Program) (w : World) (A : Around) (s : Shared) (ks vs : List Value) (blt : α → α → Bool) (k : Nat → α) : Prop where
 wo : WO blt
 kd : 2 ≤ vs.length → ∃ kd : SortKind, (∀ (E : Value → Shared → Prop) (Q : SortKind → Shared → Prop), Q kd s → wpAny (model prog w) A (keyKind' ks.toArray) Q E s) ∧ CmpOk prog w A s kd (ks.toArray.zip vs.toArray) blt k
theorem zip_at {ks vs : List Value} (hl : ks.length = vs.length) {i : Nat} {p : Keyed} (h : (ks.toArray.zip vs.toArray)[i]? = some p) : ks[i]? = some p.1 ∧ vs[i]? = some p.2 := by
 have : (ks.zip vs)[i]? = some p := by
   have e : ks.toArray.zip vs.toArray = (ks.zip vs).toArray := by simp
   rw [e] at h
   simpa using h
 rw [List.getElem?_zip_eq_some] at this
 exact this
theorem pick_at {vs : List Value} {ks : List Value} (hl : ks.length = vs.length) {ix : Nat → Nat} (bj : Bij ix vs.length) {arr : Array Keyed} (hz : arr.size = vs.length) (h : ∀ i, i < vs.length → arr[i]? = (ks.toArray.zip vs.toArray)[ix i]?) : arr.map (·.2) = (pickV vs ix).toArray := by
 refine Array.ext (by simp [pickV, hz]) fun i h1 h2 => ?_
 have hi : i < vs.length := by simpa [pickV] using h2
 have hx := bj.lt i hi
 have h3 := h i hi
 obtain ⟨p, hp⟩ : ∃ p, arr[i]? = some p := ⟨_, Array.getElem?_eq_getElem (by omega)⟩
 have h4 := (zip_at hl (h3.symm.trans hp)).2
 have e1 : (arr.map (·.2))[i]? = some p.2 := by simp [hp]
 have e2 : (pickV vs ix).toArray[i]? = some p.2 := by
   simp only [pickV, List.getElem?_toArray, List.getElem?_map, List.getElem?_range hi, Option.map_some]
   rw [List.getD_eq_getElem?_getD, h4]
   rfl
 rw [Array.getElem?_eq_getElem h1] at e1
 rw [Array.getElem?_eq_getElem h2] at e2
 exact Option.some.inj (e1.trans e2.symm)
theorem end_key {α : Type} {blt : α → α → Bool} {k : Nat → α} {a kS : Addr} {ks vs : List Value} {e ea : Nat} {P : PySem.Fin → Shared → Prop} (hl : ks.length = vs.length) (h64 : vs.length < 64)
   (hk : s.heap.get? kS = some (seqObj "list" ks.toArray e)) (ha : s.heap.get? a = some (seqObj "list" #[] ea)) (hne : kS ≠ a) (K : KeysOk prog w A s ks vs blt k)
   (h : ∀ ix, Ord blt k vs.length ix → P (.done (.ret .none)) { s with heap := (s.heap.update kS (Obj.mapSeq fun _ => #[])).update a (Obj.mapSeq fun _ => (pickV vs ix).toArray) }) :
   wpAny (model prog w) A (ksk_end a false vs.toArray ea (.ref kS) ks.toArray) P E s := by
 have hz : (ks.toArray.zip vs.toArray).size = vs.length := by simp [hl]
 have ha2 : (s.heap.update kS (Obj.mapSeq fun _ => #[])).get? a = some (seqObj "list" #[] ea) := by
   have := get?_update_seq hk (fun _ => #[])
   rw [Heap.get?_update_ne _ _ _ _ (Ne.symm hne)]
   exact ha
 have fin : ∀ (st' : SortSt) ix, (arrOf st').size = vs.length → (∀ i, i < vs.length → (arrOf st')[i]? = (ks.toArray.zip vs.toArray)[ix i]?) → failedOf st' = none → Ord blt k vs.length ix →
     wpAny (model prog w) A (ksk_tail a false ea (.ref kS) st') P E s := fun st' ix z1 z2 z3 o => by
   have ep := pick_at hl o.bj z1 z2
   unfold ksk_tail
   dsimp only
   refine wpAny_bind (listUpdate_at hk rfl ?_ (by rw [sizeLine_eq]; simp; omega))
   refine wpAny_bind (wpAny_letGo ?_)
   refine wpAny_bind (seqEpoch_at ha2 rfl ?_)
   refine wpAny_bind (listUpdate_at ha2 rfl ?_ (hsz2 := by
     rw [sizeLine_eq]
     simp only [Bool.false_eq_true, if_false]
     rw [ep]
     simp [pickV]
     omega))
   rw [z3]
   simp only [bne_self_eq_false, Bool.false_eq_true, if_false]
   rw [ep]
   exact wpAny_pure (h ix o)
 unfold ksk_end
 dsimp only
 simp only [Bool.false_eq_true, if_false]
 by_cases h2 : vs.toArray.size < 2
 · rw [if_pos h2, if_pos h2]
   refine wpAny_bind (wpAny_pure ?_)
   rw [StateT.run_pure]
   refine wpAny_bind (wpAny_pure ?_)
   have h2' : vs.length < 2 := by simpa using h2
   refine fin _ (fun i => i) hz (fun i _ => rfl) rfl ⟨Bij.idf, fun i j z1 z2 => by omega⟩
 · rw [if_neg h2, if_neg h2]
   have h2' : 2 ≤ vs.length := by simpa using h2
   obtain ⟨kd, kk, cm⟩ := K.kd h2'
   refine wpAny_bind (kk _ _ ?_)
   refine wpAny_bind (wpAny_mono (runs_st (kd := kd) (st := SortSt.mk' kd (ks.toArray.zip vs.toArray) #[] 7 none) (Q := fun _ st' => ∃ ix, (arrOf st').size = vs.length ∧ (∀ i, i < vs.length → (arrOf st')[i]? = (ks.toArray.zip vs.toArray)[ix i]?) ∧ failedOf st' = none ∧ Ord blt k vs.length ix)
     K.wo cm ⟨rfl, fun i _ => rfl, Bij.idf, rfl, rfl, rfl⟩ (by omega) (by omega) fun ix st' z1 z2 z3 z4 z5 => ?_) ?_ fun _ _ e => e)
   · rw [hz] at z1 z2 z3 z5
     exact ⟨ix, z1, z2, z4, z3, z5⟩
   · rintro ⟨⟨⟩, st'⟩ s' ⟨rfl, ix, z1, z2, z3, z4⟩
     exact fin st' ix z1 z2 z3 z4
theorem rest_key {f : Value} {a kS : Addr} {vs : List Value} {ea : Nat} {P : PySem.Fin → Shared → Prop} (J : Nat → List Value → Shared → Prop) (h64 : vs.length < 64) (h0 : J 0 [] s)
   (step : ∀ (i : Nat) (x : Value) (ks : List Value) (s' : Shared), vs[i]? = some x → ks.length = i → J i ks s' → wpAny (model prog w) A (call f [x]) (fun kv s2 => (∃ e, s2.heap.get? kS = some (seqObj "list" ks.toArray e)) ∧ J (i + 1) (ks ++ [kv]) { s2 with heap := s2.heap.update kS (Obj.mapSeq (·.push kv)) }) (fun _ _ => False) s')
   (fin : ∀ (ks : List Value) (s' : Shared), ks.length = vs.length → J vs.length ks s' → ∃ (α : Type) (blt : α → α → Bool) (k : Nat → α) (e : Nat), s'.heap.get? kS = some (seqObj "list" ks.toArray e) ∧ s'.heap.get? a = some (seqObj "list" #[] ea) ∧ kS ≠ a ∧ KeysOk prog w A s' ks vs blt k ∧
     ∀ ix, Ord blt k vs.length ix → P (.done (.ret .none)) { s' with heap := (s'.heap.update kS (Obj.mapSeq fun _ => #[])).update a (Obj.mapSeq fun _ => (pickV vs ix).toArray) }) :
   wpAny (model prog w) A (ksk_rest a f false vs.toArray ea (.ref kS)) P E s := by
 unfold ksk_rest
 refine wpAny_bind (wpAny_rule ?_)
 refine wpAny_bind ?_
 rw [← Array.forIn_toList]
 refine ksk_fold (fun i s' => ∃ ks, ks.length = i ∧ J i ks s') vs 0 s ⟨[], rfl, h0⟩ (fun j x s' hx ⟨ks, hk, hJ⟩ => ?_) fun s' ⟨ks, hk, hJ⟩ => ?_
 · rw [Nat.zero_add] at hk hJ ⊢
   have hj : j < vs.length := (List.getElem?_eq_some_iff.mp hx).1
   refine wpAny_bind (wpAny_attempt (wpAny_mono (step j x ks s' hx hk hJ) (fun kv s2 ⟨⟨e, h1⟩, h2⟩ => ?_) fun _ _ z => z.elim))
   dsimp only
   refine wpAny_bind (listUpdate_at h1 rfl ?_ (by rw [sizeLine_eq]; simp; omega) (by rw [sizeLine_eq]; simp; omega))
   exact wpAny_pure ⟨rfl, ks ++ [kv], by simp [hk], h2⟩
 · rw [Nat.zero_add] at hk hJ
   obtain ⟨α, blt, k, e, h1, h2, h3, h4, h5⟩ := fin ks s' hk hJ
   refine wpAny_bind (listItems_at h1 rfl ?_)
   exact end_key hk h64 h1 h2 h3 h4 h5
end
end L6
namespace L6
def eat (c : Nat) : List Nat → List Nat
 | [] => []
 | x :: r => if x = c then r else x :: r
def eats (l : List Nat) : List Nat → List Nat := fun less => l.foldl (fun r c => eat c r) less
def under (less more : List Nat) : Bool := (eats more less).isEmpty
theorem eats_nil (l : List Nat) : eats l [] = [] := by
 induction l with
 | nil => rfl
 | cons c l ih => exact ih
theorem under_iff : ∀ {more less : List Nat}, under less more = true ↔ less.Sublist more
 | [], [] => by simp [under, eats]
 | [], x :: less => by simp [under, eats]
 | c :: more, [] => by simp [under, eats_nil]
 | c :: more, x :: less => by
   show under (eat c (x :: less)) more = true ↔ _
   by_cases h : x = c
   · subst h
     rw [show eat x (x :: less) = less from if_pos rfl, under_iff (more := more) (less := less)]
     exact ⟨fun z => z.cons_cons x, fun z => by cases z with | cons _ z => exact List.Sublist.trans (List.sublist_cons_self _ _) z | cons_cons _ z => exact z⟩
   · rw [show eat c (x :: less) = x :: less from if_neg h, under_iff (more := more) (less := x :: less)]
     exact ⟨fun z => z.cons c, fun z => by cases z with | cons _ z => exact z | cons_cons _ z => exact absurd rfl h⟩
theorem under_rfl (w : List Nat) : under w w = true := under_iff.mpr (List.Sublist.refl w)
theorem under_trans {a b c : List Nat} (h : under a b = true) (h' : under b c = true) : under a c = true := under_iff.mpr ((under_iff.mp h).trans (under_iff.mp h'))
theorem under_len {a b : List Nat} (h : under a b = true) : a.length ≤ b.length := (under_iff.mp h).length_le
theorem under_eq {a b : List Nat} (h : under a b = true) (hl : b.length ≤ a.length) : a = b := (under_iff.mp h).eq_of_length_le hl
def findFrom (c : Nat) (more : List Nat) (start : Nat) : Option Nat := ((List.range more.length).filter fun i => decide (start ≤ i) && decide (more[i]? = some c)).head?
def plc : List Nat → List Nat → Nat → List Nat → Option (List Nat)
 | [], _, _, acc => some acc
 | c :: r, more, start, acc => match findFrom c more start with
   | none => none
   | some p => plc r more (p + 1) (acc ++ [p])
theorem find_some {c : Nat} {more : List Nat} {start p : Nat} (h : findFrom c more start = some p) : start ≤ p ∧ more[p]? = some c ∧ ∀ i, start ≤ i → i < p → more[i]? ≠ some c := by
 unfold findFrom at h
 rw [List.head?_filter] at h
 have h1 := List.find?_some h
 rw [Bool.and_eq_true] at h1
 refine ⟨of_decide_eq_true h1.1, of_decide_eq_true h1.2, fun i hi hp e => ?_⟩
 obtain ⟨_, as, bs, e1, e2⟩ := List.find?_eq_some_iff_append.mp h
 have hl : p = as.length := by
   have := congrArg (fun l => l[as.length]?) e1
   simp at this
   have hlt : as.length < more.length := by
     have := congrArg List.length e1
     simp at this
     omega
   rw [List.getElem?_range hlt] at this
   simpa using this.symm
 have hlt : p < more.length := by
   have := (List.getElem?_eq_some_iff.mp (of_decide_eq_true h1.2)).1
   exact this
 have hm : i ∈ as := by
   have e3 := congrArg (fun l => l[i]?) e1
   rw [List.getElem?_range (by omega), List.getElem?_append_left (by omega)] at e3
   exact List.mem_of_getElem? e3.symm
 have := e2 i hm
 rw [decide_eq_true hi, decide_eq_true e] at this
 simp at this
theorem find_none {c : Nat} {more : List Nat} {start : Nat} (h : findFrom c more start = none) : ∀ i, start ≤ i → more[i]? ≠ some c := fun i hi e => by
 unfold findFrom at h
 rw [List.head?_filter, List.find?_eq_none] at h
 have hlt := (List.getElem?_eq_some_iff.mp e).1
 have := h i (List.mem_range.mpr hlt)
 rw [decide_eq_true hi, decide_eq_true e] at this
 simp at this
theorem skip_sub {c : Nat} {r : List Nat} : ∀ {k : Nat} {l : List Nat}, (∀ i, i < k → l[i]? ≠ some c) → ((c :: r).Sublist l ↔ (c :: r).Sublist (l.drop k))
 | 0, l, _ => by simp
 | k + 1, [], _ => by simp
 | k + 1, y :: l, h => by
   have hy : y ≠ c := fun e => h 0 (by omega) (by simp [e])
   have ih := skip_sub (r := r) (k := k) (l := l) fun i hi => by have := h (i + 1) (by omega); simpa using this
   rw [List.drop_succ_cons, ← ih]
   exact ⟨fun z => by cases z with | cons _ z => exact z | cons_cons _ z => exact absurd rfl hy, fun z => z.cons y⟩
theorem plc_isSome : ∀ (less more : List Nat) (start : Nat) (acc : List Nat), (plc less more start acc).isSome = true ↔ less.Sublist (more.drop start)
 | [], more, start, acc => by simp [plc]
 | c :: r, more, start, acc => by
   unfold plc
   cases h : findFrom c more start with
   | none =>
     have hn := find_none h
     refine ⟨fun z => (by cases z), fun z => ?_⟩
     have hm : c ∈ more.drop start := z.subset List.mem_cons_self
     obtain ⟨i, hi⟩ := List.mem_iff_getElem?.mp hm
     rw [List.getElem?_drop] at hi
     exact absurd hi (hn _ (by omega))
   | some p =>
     obtain ⟨h1, h2, h3⟩ := find_some h
     have ih := plc_isSome r more (p + 1) (acc ++ [p])
     show (plc r more (p + 1) (acc ++ [p])).isSome = true ↔ _
     rw [ih]
     have e1 := skip_sub (c := c) (r := r) (k := p - start) (l := more.drop start) fun i hi => by
       rw [List.getElem?_drop]
       exact h3 _ (by omega) (by omega)
     rw [e1, List.drop_drop, show start + (p - start) = p by omega]
     obtain ⟨hp, hv⟩ := List.getElem?_eq_some_iff.mp h2
     rw [List.drop_eq_getElem_cons hp, hv]
     exact ⟨fun z => z.cons_cons c, fun z => by cases z with | cons _ z => exact (List.sublist_cons_self _ _).trans z | cons_cons _ z => exact z⟩
theorem plc_under (less more : List Nat) : (plc less more 0 []).isSome = under less more := by
 have := plc_isSome less more 0 []
 rw [List.drop_zero, ← under_iff] at this
 cases h : (plc less more 0 []).isSome <;> cases h' : under less more <;> simp_all
def wlt (a b : List Nat) : Bool := decide (a.length < b.length) || (decide (a.length = b.length) && decide (a < b))
theorem wlt_irr (a : List Nat) : wlt a a = false := by simp [wlt, List.lt_irrefl]
theorem wlt_iff {a b : List Nat} : wlt a b = true ↔ a.length < b.length ∨ (a.length = b.length ∧ a < b) := by simp [wlt]
theorem wlt_tr (a b c : List Nat) (h : wlt a b = true) (h' : wlt b c = true) : wlt a c = true := by
 rw [wlt_iff] at *
 rcases h with h | ⟨h1, h2⟩ <;> rcases h' with h' | ⟨h3, h4⟩
 · left; omega
 · left; omega
 · left; omega
 · right; exact ⟨by omega, List.lt_trans h2 h4⟩
theorem wlt_tot (a b : List Nat) (h : wlt a b = false) (h' : wlt b a = false) : a = b := by
 have n1 : ¬ (wlt a b = true) := by rw [h]; simp
 have n2 : ¬ (wlt b a = true) := by rw [h']; simp
 rw [wlt_iff] at n1 n2
 have hl : a.length = b.length := by omega
 have l1 : ¬ a < b := fun z => n1 (.inr ⟨hl, z⟩)
 have l2 : ¬ b < a := fun z => n2 (.inr ⟨hl.symm, z⟩)
 exact List.le_antisymm (List.not_lt.mp l2) (List.not_lt.mp l1)
theorem wlt_neg (a b c : List Nat) (h : wlt a c = true) : wlt a b = true ∨ wlt b c = true := by
 cases h1 : wlt a b with
 | true => exact .inl rfl
 | false =>
   right
   cases h2 : wlt b a with
   | true => exact wlt_tr _ _ _ h2 h
   | false => rw [← wlt_tot a b h1 h2]; exact h
theorem perm_of_mem {α : Type} [BEq α] [LawfulBEq α] {l m : List α} (h : l.Nodup) (h' : m.Nodup) (e : ∀ x, x ∈ l ↔ x ∈ m) : l.Perm m := by
 rw [List.perm_iff_count]
 intro a
 rw [h.count, h'.count]
 by_cases z : a ∈ l
 · rw [if_pos z, if_pos ((e a).mp z)]
 · rw [if_neg z, if_neg fun q => z ((e a).mpr q)]
theorem sorted_eq {l m : List (List Nat)} (h : l.Pairwise fun a b => wlt a b = true) (h' : m.Pairwise fun a b => wlt a b = true) (e : ∀ x, x ∈ l ↔ x ∈ m) : l = m := by
 have nd : ∀ {l : List (List Nat)}, l.Pairwise (fun a b => wlt a b = true) → l.Nodup := fun h => h.imp fun {a b} z e => by subst e; rw [wlt_irr] at z; cases z
 refine List.Perm.eq_of_pairwise (le := fun a b => wlt a b = true) (fun a b _ _ z1 z2 => ?_) h h' (perm_of_mem (nd h) (nd h') e)
 have := wlt_tr _ _ _ z1 z2
 rw [wlt_irr] at this
 cases this
def keep1 (kept : List (List Nat)) (w : List Nat) : List (List Nat) := if kept.any (fun v => under v w) then kept else kept ++ [w]
def leastOf (ws : List (List Nat)) : List (List Nat) := ws.foldl keep1 []
structure Kept (ws kept : List (List Nat)) : Prop where
 asc : kept.Pairwise fun a b => wlt a b = true
 of : ∀ w ∈ kept, w ∈ ws
 bel : ∀ w ∈ ws, ∃ v ∈ kept, under v w = true
 min : ∀ v ∈ kept, ∀ w ∈ ws, under w v = true → w = v
theorem wlt_of_under {a b : List Nat} (h : under a b = true) (hn : a ≠ b) : wlt a b = true := by
 rw [wlt_iff]
 left
 have := under_len h
 rcases Nat.lt_or_ge a.length b.length with z | z
 · exact z
 · exact absurd (under_eq h z) hn
theorem kept_one {ws kept : List (List Nat)} {w : List Nat} (h : Kept ws kept) (hw : ∀ v ∈ ws, wlt w v = false) : Kept (ws ++ [w]) (keep1 kept w) := by
 unfold keep1
 by_cases c : kept.any (fun v => under v w) = true
 · rw [if_pos c]
   obtain ⟨u, hu, hu2⟩ := List.any_eq_true.mp c
   refine ⟨h.asc, fun v hv => List.mem_append_left _ (h.of v hv), fun v hv => ?_, fun v hv x hx hxv => ?_⟩
   · rcases List.mem_append.mp hv with hv | hv
     · exact h.bel v hv
     · rw [List.mem_singleton.mp hv]; exact ⟨u, hu, hu2⟩
   · rcases List.mem_append.mp hx with hx | hx
     · exact h.min v hv x hx hxv
     · have ex := List.mem_singleton.mp hx
       subst ex
       have e1 := h.min v hv u (h.of u hu) (under_trans hu2 hxv)
       subst e1
       exact under_eq hxv (under_len hu2)
 · rw [if_neg c]
   have nc : ∀ v ∈ kept, under v w = false := fun v hv => by
     cases e : under v w with
     | false => rfl
     | true => exact absurd (List.any_eq_true.mpr ⟨v, hv, e⟩) c
   refine ⟨?_, fun v hv => ?_, fun v hv => ?_, fun v hv x hx hxv => ?_⟩
   · refine List.pairwise_append.mpr ⟨h.asc, List.pairwise_singleton _ _, fun a ha b hb => ?_⟩
     rw [List.mem_singleton.mp hb]
     cases e : wlt a w with
     | true => rfl
     | false =>
       have := wlt_tot a w e (hw a (h.of a ha))
       have n := nc a ha
       rw [this, under_rfl] at n
       cases n
   · rcases List.mem_append.mp hv with hv | hv
     · exact List.mem_append_left _ (h.of v hv)
     · exact List.mem_append_right _ hv
   · rcases List.mem_append.mp hv with hv | hv
     · obtain ⟨u, hu, hu2⟩ := h.bel v hv
       exact ⟨u, List.mem_append_left _ hu, hu2⟩
     · rw [List.mem_singleton.mp hv]; exact ⟨w, List.mem_append_right _ List.mem_cons_self, under_rfl w⟩
   · rcases List.mem_append.mp hv with hv | hv
     · rcases List.mem_append.mp hx with hx | hx
       · exact h.min v hv x hx hxv
       · have ex := List.mem_singleton.mp hx
         subst ex
         cases e : decide (x = v) with
         | true => exact of_decide_eq_true e
         | false =>
           have := wlt_of_under hxv (of_decide_eq_false e)
           rw [hw v (h.of v (by assumption))] at this
           cases this
     · have ev := List.mem_singleton.mp hv
       subst ev
       rcases List.mem_append.mp hx with hx | hx
       · obtain ⟨u, hu, hu2⟩ := h.bel x hx
         have := nc u hu
         rw [under_trans hu2 hxv] at this
         cases this
       · exact List.mem_singleton.mp hx
theorem kept_all : ∀ (ws done kept : List (List Nat)), Kept done kept → (∀ v ∈ done, ∀ w ∈ ws, wlt w v = false) → ws.Pairwise (fun a b => wlt b a = false) → Kept (done ++ ws) (ws.foldl keep1 kept)
 | [], done, kept, h, _, _ => by simpa using h
 | w :: ws, done, kept, h, hd, hp => by
   rw [List.pairwise_cons] at hp
   have := kept_all ws (done ++ [w]) (keep1 kept w) (kept_one h fun v hv => hd v hv w List.mem_cons_self) (fun v hv x hx => by
     rcases List.mem_append.mp hv with hv | hv
     · exact hd v hv x (List.mem_cons_of_mem _ hx)
     · rw [List.mem_singleton.mp hv]; exact hp.1 x hx) hp.2
   simpa using this
theorem least_kept {ws : List (List Nat)} (hp : ws.Pairwise fun a b => wlt b a = false) : Kept ws (leastOf ws) := by
 have := kept_all ws [] [] ⟨.nil, fun _ h => (by cases h), fun _ h => (by cases h), fun _ h => (by cases h)⟩ (fun _ h => by cases h) hp
 simpa [leastOf] using this
theorem kept_uniq {ws vs k l : List (List Nat)} (e : ∀ x, x ∈ ws ↔ x ∈ vs) (h : Kept ws k) (h' : Kept vs l) : k = l := by
 refine sorted_eq h.asc h'.asc fun x => ⟨fun hx => ?_, fun hx => ?_⟩
 · obtain ⟨u, hu, hu2⟩ := h'.bel x ((e x).mp (h.of x hx))
   have := h.min x hx u ((e u).mpr (h'.of u hu)) hu2
   rw [← this]; exact hu
 · obtain ⟨u, hu, hu2⟩ := h.bel x ((e x).mpr (h'.of x hx))
   have := h'.min x hx u ((e u).mp (h.of u hu)) hu2
   rw [← this]; exact hu
end L6
namespace L6
open PySem PyProof.Rows PySem.W
theorem wo_int : WO (fun a b : Int => decide (a < b)) := ⟨fun a => by simp, fun a b c h h' => by simp at *; omega, fun a b c h => by simp at *; omega⟩
theorem wo_txt : WO (fun a b : List Nat => decide (a < b)) := by
 refine ⟨fun a => by simp [List.lt_irrefl], fun a b c h h' => ?_, fun a b c h => ?_⟩
 · simp only [decide_eq_true_eq] at *; exact List.lt_trans h h'
 · simp only [decide_eq_true_eq] at *
   by_cases z : a < b
   · exact .inl z
   · exact .inr (List.lt_of_le_of_lt (List.not_lt.mp z) h)
def plt (a b : Int × List Nat) : Bool := decide (a.1 < b.1) || (decide (a.1 = b.1) && decide (a.2 < b.2))
theorem plt_iff {a b : Int × List Nat} : plt a b = true ↔ a.1 < b.1 ∨ (a.1 = b.1 ∧ a.2 < b.2) := by simp [plt]
theorem wo_plt : WO plt := by
 refine ⟨fun a => by simp [plt, List.lt_irrefl], fun a b c h h' => ?_, fun a b c h => ?_⟩
 · rw [plt_iff] at *
   rcases h with h | ⟨h1, h2⟩ <;> rcases h' with h' | ⟨h3, h4⟩
   · left; omega
   · left; omega
   · left; omega
   · right; exact ⟨by omega, List.lt_trans h2 h4⟩
 · rw [plt_iff, plt_iff]
   rw [plt_iff] at h
   by_cases z1 : a.1 < b.1
   · exact .inl (.inl z1)
   · by_cases z2 : b.1 < c.1
     · exact .inr (.inl z2)
     · rcases h with h | ⟨h1, h2⟩
       · omega
       · have e1 : a.1 = b.1 := by omega
         have e2 : b.1 = c.1 := by omega
         by_cases z : a.2 < b.2
         · exact .inl (.inr ⟨e1, z⟩)
         · exact .inr (.inr ⟨e2, List.lt_of_le_of_lt (List.not_lt.mp z) h2⟩)
theorem plt_wlt (a b : List Nat) : plt ((a.length : Nat), a) ((b.length : Nat), b) = wlt a b := by
 unfold plt wlt
 congr 1
 · exact decide_eq_decide.mpr (by show ((a.length : Nat) : Int) < ((b.length : Nat) : Int) ↔ _; omega)
 · congr 1
   exact decide_eq_decide.mpr (by show ((a.length : Nat) : Int) = ((b.length : Nat) : Int) ↔ _; omega)
section
variable {prog : Program} {w : World} {A : Around} {s : Shared} {ks vs : List Value}
theorem keys_int {ns : List Int} (hl : ks.length = vs.length) (hk : ∀ (i : Nat) v, ks[i]? = some v → ∃ t, v = .int (ns.getD i 0) t) : KeysOk prog w A s ks vs (fun a b : Int => decide (a < b)) (fun i => ns.getD i 0) := by
 refine ⟨wo_int, fun h2 => ⟨oneType', fun E Q q => ?_, fun i j x p y q E Q hi hj h => ?_⟩⟩
 · refine kas_kind (T := .type "int") (by omega) (fun v hv => ?_) (by rfl) (by rfl) q
   obtain ⟨i, hi⟩ := List.mem_iff_getElem?.mp hv
   obtain ⟨t, rfl⟩ := hk i v hi
   exact .now
 · obtain ⟨t, rfl⟩ := hk i x (zip_at hl hi).1
   obtain ⟨u, rfl⟩ := hk j y (zip_at hl hj).1
   exact kat_lt_int h
theorem keys_txt {xs : List Str} (hl : ks.length = vs.length) (hk : ∀ (i : Nat) v, ks[i]? = some v → ∃ t, v = .str (xs.getD i Str.empty) t) : KeysOk prog w A s ks vs (fun a b : List Nat => decide (a < b)) (fun i => (xs.getD i Str.empty).cps.toList) := by
 refine ⟨wo_txt, fun h2 => ⟨oneType', fun E Q q => ?_, fun i j x p y q E Q hi hj h => ?_⟩⟩
 · refine kas_kind (T := .type "str") (by omega) (fun v hv => ?_) (by rfl) (by rfl) q
   obtain ⟨i, hi⟩ := List.mem_iff_getElem?.mp hv
   obtain ⟨t, rfl⟩ := hk i v hi
   exact .now
 · obtain ⟨t, rfl⟩ := hk i x (zip_at hl hi).1
   obtain ⟨u, rfl⟩ := hk j y (zip_at hl hj).1
   exact kas_lt_str h
def PairAt (h : Heap) (v : Value) (n : Int) (x : Str) : Prop := ∃ (a : Addr) (o : Obj) (t u : Tok) (e : Nat), v = .ref a ∧ h.get? a = some o ∧ o.cls = .type "tuple" ∧ o.data = .seq #[.int n t, .str x u] e
theorem keys_pair {ps : List (Int × Str)} (hl : ks.length = vs.length) (hp : ps.length = ks.length) (hk : ∀ (i : Nat) v p, ks[i]? = some v → ps[i]? = some p → PairAt s.heap v p.1 p.2) :
   KeysOk prog w A s ks vs plt (fun i => ((ps.getD i (0, Str.empty)).1, (ps.getD i (0, Str.empty)).2.cps.toList)) := by
 have hk' : ∀ (i : Nat) v, ks[i]? = some v → PairAt s.heap v (ps.getD i (0, Str.empty)).1 (ps.getD i (0, Str.empty)).2 := fun i v e => by
   have hi : i < ps.length := by rw [hp]; exact (List.getElem?_eq_some_iff.mp e).1
   have := hk i v ps[i] e (List.getElem?_eq_getElem hi)
   rw [List.getD_eq_getElem?_getD, List.getElem?_eq_getElem hi]
   exact this
 refine ⟨wo_plt, fun h2 => ⟨tuples' true, fun E Q q => ?_, fun i j x p y q E Q hi hj h => ?_⟩⟩
 · have go : ∀ l : List Value, (∀ v ∈ l, ∃ n x, PairAt s.heap v n x) → ∃ fs : List Value, KatTups s.heap l fs ∧ fs.length = l.length ∧ ∀ f ∈ fs, ∃ n t, f = .int n t := by
     intro l
     induction l with
     | nil => exact fun _ => ⟨[], .nil, rfl, fun _ h => by cases h⟩
     | cons v l ih =>
       intro h
       obtain ⟨fs, z1, z2, z3⟩ := ih fun v' hv => h v' (List.mem_cons_of_mem _ hv)
       obtain ⟨n, x, a, o, t, u, e, rfl, ho, hc, hd⟩ := h v List.mem_cons_self
       refine ⟨.int n t :: fs, .cons ho hc hd rfl z1, by simp [z2], fun f hf => ?_⟩
       rcases List.mem_cons.mp hf with rfl | hf
       · exact ⟨n, t, rfl⟩
       · exact z3 f hf
   obtain ⟨fs, z1, z2, z3⟩ := go ks fun v hv => by
     obtain ⟨i, hi⟩ := List.mem_iff_getElem?.mp hv
     exact ⟨_, _, hk' i v hi⟩
   refine kat_kind (T := .type "int") z1 (by omega) (fun f hf => ?_) (by rfl) q
   obtain ⟨n, t, rfl⟩ := z3 f hf
   exact .now
 · obtain ⟨a, o, t, u, e, rfl, ho, hc, hd⟩ := hk' i x (zip_at hl hi).1
   obtain ⟨a', o', t', u', e', rfl, ho', hc', hd'⟩ := hk' j y (zip_at hl hj).1
   dsimp only at h
   generalize (ps.getD i (0, Str.empty)).1 = n at *
   generalize (ps.getD i (0, Str.empty)).2 = x at *
   generalize (ps.getD j (0, Str.empty)).1 = m at *
   generalize (ps.getD j (0, Str.empty)).2 = y at *
   refine kat_lt ho hd ho' hd' (kat_cons (wpAny_eqBool_int ?_))
   by_cases en : n = m
   · subst en
     rw [show (n == n) = true by simp]
     refine kat_yes (kat_cons (wpAny_eqBool_str ?_))
     by_cases ex : x = y
     · subst ex
       rw [show decide (x = x) = true by simp]
       refine kat_yes (kat_nil ?_)
       simpa [plt, List.lt_irrefl] using h
     · rw [decide_eq_false ex]
       refine kat_no (kat_one _ _ ?_)
       have e1 : plt (n, x.cps.toList) (n, y.cps.toList) = decide (x.cps.toList < y.cps.toList) := by simp [plt]
       rw [e1] at h
       exact lt_str h
   · rw [show (n == m) = false by simpa using en]
     refine kat_no ?_
     have e1 : plt (n, x.cps.toList) (m, y.cps.toList) = decide (n < m) := by simp [plt, en]
     rw [e1] at h
     exact oneLt_int h
end
end L6
namespace L2
open PySem PySem.Spec
open PyProof.Rows hiding St
section
variable {X : Cx} {pins : List (Addr × Obj)} {σ : St} {H : Hp} {s : Shared} {h' : Heap}
theorem Inv.adopt {q : Addr} {o : HO} {t' : Nat} (I : Inv X pins σ H s) (fp : FpOk X pins H q) (k : ∀ b u, b ≠ q → s.heap.get? b = some u → h'.get? b = some u) (new : ObjOk X.prog X.w (upd H q o) h' q o) : Inv X pins σ (upd H q o) { s with heap := h', toks := t' } := by
 obtain ⟨f0, f1, f2, f3, f4, f5⟩ := fp
 have nq : ∀ c u, H c = some u → c ≠ q := fun c u e => ne_of_none e f0
 refine I.step (g' := s.gens) (d' := s.drawn) (ch := [q]) (fun b hb => ?_) (fun b o _ _ hc e _ => k b o (fun z => hc (by simp [z])) e) (fun b o _ _ hc e _ => ⟨o.slots, k b o (fun z => hc (by simp [z])) e⟩)
   (fun b o hc _ n => by rw [upd_ne (fun z => hc (by simp [z]))]; exact n) (fun b o hc e => ⟨o, k b o (fun z => hc (by simp [z])) e⟩) (fun b xs e => by rw [upd_ne (nq _ _ e)]; exact e) (fun b o u e => by rw [upd_ne (nq _ _ e)]; exact e)
   (fun b ps e => ⟨#[], by rw [upd_ne (nq _ _ e), e]; simp⟩) (fun m hm => ?_) (fun b u e => ?_) I.bare
 · have e : b = q := by simpa using hb
   subst e
   exact ⟨f3, f1, f4, f5⟩
 · obtain ⟨o, es, ep, ho, r⟩ := hm
   exact ⟨o, es, ep, k _ o (Ne.symm f1) ho, r⟩
 · by_cases hb : b = q
   · subst hb; rw [upd_same] at e; cases e; exact new
   · rw [upd_ne hb] at e
     refine (I.hok b u e).stay (fun c v hc r => k c v ?_ r) (fun c r => by rw [upd_ne (nq _ _ r)]; exact r) fun c xs r => by rw [upd_ne (nq _ _ r)]; exact r
     rcases hc with z | z
     · rw [z]; exact hb
     · exact nq _ _ z
theorem Room.in2 {k : Nat} {A : Around} (r : Room (k + 1) A) : Room k A.in1.in1 :=
 ⟨r.hd, by have := r.dp; show A.depth + 3 * k + 5 < _; omega, by have := r.un; show A.units + 1 + 1 + 16 * k + 200 < _; omega, r.gd⟩
theorem run_fn2 {k : Nat} {f : Addr} {fd : FuncData} {ps : List Str} {sp : Sp} {Q : VK} {us : List Value} {vs : List V} (F : FnOk X.prog X.w X.K X.mg X.base CX0 k f fd ps sp) (hr : Room (k + 1) X.A) (hb : Binds X.K fd ps [])
   (I : Inv X pins σ H s) (r : Vals vs us) (h : sp vs H Q E0) : wpAny (model X.prog X.w) X.A.in1.in1 (call (.ref f) us) (EP X pins σ Q) (fun _ _ => False) s := by
 have hl : us.length = ps.length := by rw [← r.length]; exact F.len _ _ _ _ h
 have bd := hb s us I.kIn (by rw [List.append_nil]; exact hl)
 rw [List.append_nil] at bd
 refine wpAny_call (codeAny_mono (F.run X.A.in1.in1 X.stack s H ⟨us, []⟩ us vs Q E0 hr.in2 I.env0.in1.in1 bd r h) fun r s' hq => ?_)
 cases r with
 | error e => exact False.elim hq
 | ok fl =>
   cases fl with
   | ret u => exact I.after hq
   | next => exact False.elim hq
   | brk => exact False.elim hq
   | cont => exact False.elim hq
end
end L2
namespace L6
open PySem PySem.Spec
open PyProof.Rows hiding St
open L2 L3
def keyGo (sp : Sp) (R : List V → Hp → Prop) : List V → List V → Hp → Prop
 | [], ks, H => R ks H
 | x :: xs, ks, H => sp [x] H (fun k H' => keyGo sp R xs (ks ++ [k]) H') E0
inductive KeysV (K : PySem.W.Frag) (H : Hp) : List V → (α : Type) → (α → α → Bool) → (Nat → α) → Prop
 | int (ns : List Int) : KeysV K H (ns.map V.int) Int (fun a b => decide (a < b)) (fun i => ns.getD i 0)
 | txt (xs : List Str) : KeysV K H (xs.map V.str) (List Nat) (fun a b => decide (a < b)) (fun i => (xs.getD i Str.empty).cps.toList)
 | pair (ps : List (Int × Str)) (ks : List V) (hl : ps.length = ks.length) (h : ∀ (i : Nat) v p, ks[i]? = some v → ps[i]? = some p → ∃ a, v = .ref a ∧ SqT K H a [.int p.1, .str p.2]) :
     KeysV K H ks (Int × List Nat) plt (fun i => ((ps.getD i (0, Str.empty)).1, (ps.getD i (0, Str.empty)).2.cps.toList))
def pickL {α : Type} (d : α) (xs : List α) (ix : Nat → Nat) : List α := (List.range xs.length).map fun i => xs.getD (ix i) d
section
variable {X : Cx} {pins : List (Addr × Obj)} {σ : St} {H : Hp} {s : Shared}
theorem Vals.pick {xs : List V} {vs : List Value} (r : Vals xs vs) {ix : Nat → Nat} (bj : Bij ix vs.length) : Vals (pickL .non xs ix) (pickV vs ix) := by
 have hl := r.length
 have go : ∀ l : List Nat, (∀ i ∈ l, i < vs.length) → Vals (l.map fun i => xs.getD (ix i) .non) (l.map fun i => vs.getD (ix i) .none) := by
   intro l
   induction l with
   | nil => exact fun _ => .nil
   | cons i l ih =>
     intro h
     have hi := bj.lt i (h i List.mem_cons_self)
     have e1 : xs[ix i]? = some (xs.getD (ix i) .non) := by rw [List.getD_eq_getElem?_getD, List.getElem?_eq_getElem (by omega)]; rfl
     obtain ⟨u, hu, ru⟩ := Vals.get r e1
     have e2 : vs.getD (ix i) .none = u := by rw [List.getD_eq_getElem?_getD, hu]; rfl
     refine .cons ?_ (ih fun j hj => h j (List.mem_cons_of_mem _ hj))
     show L2.RelV (xs.getD (ix i) .non) (vs.getD (ix i) .none)
     rw [e2]
     exact ru
 unfold pickL pickV
 rw [hl]
 exact go _ fun i hi => List.mem_range.mp hi
theorem keysV_ok {α : Type} {blt : α → α → Bool} {k : Nat → α} {kvs : List V} {ks vs : List Value} {A : Around} (I : Inv X pins σ H s) (h : KeysV X.K H kvs α blt k) (r : Vals kvs ks) (hl : ks.length = vs.length) : KeysOk X.prog X.w A s ks vs blt k := by
 cases h with
 | int ns =>
   refine keys_int hl fun i v e => ?_
   have hi := (List.getElem?_eq_some_iff.mp e).1
   have hi' : i < ns.length := by have := r.length; rw [List.length_map] at this; omega
   obtain ⟨u, hu, ru⟩ := Vals.get r (i := i) (x := V.int ns[i]) (by rw [List.getElem?_map, List.getElem?_eq_getElem hi']; rfl)
   rw [e] at hu
   cases hu
   obtain ⟨t, rfl⟩ := ru
   exact ⟨t, by rw [List.getD_eq_getElem?_getD, List.getElem?_eq_getElem hi']; rfl⟩
 | txt xs =>
   refine keys_txt hl fun i v e => ?_
   have hi := (List.getElem?_eq_some_iff.mp e).1
   have hi' : i < xs.length := by have := r.length; rw [List.length_map] at this; omega
   obtain ⟨u, hu, ru⟩ := Vals.get r (i := i) (x := V.str xs[i]) (by rw [List.getElem?_map, List.getElem?_eq_getElem hi']; rfl)
   rw [e] at hu
   cases hu
   obtain ⟨t, rfl⟩ := ru
   exact ⟨t, by rw [List.getD_eq_getElem?_getD, List.getElem?_eq_getElem hi']; rfl⟩
 | pair ps _ hp hk =>
   refine keys_pair hl (by rw [hp]; exact r.length) fun i v p e ep => ?_
   have hi := (List.getElem?_eq_some_iff.mp e).1
   have hi' : i < kvs.length := by rw [r.length]; exact hi
   obtain ⟨u, hu, ru⟩ := Vals.get r (List.getElem?_eq_getElem hi')
   rw [e] at hu
   cases hu
   obtain ⟨a, ea, hs⟩ := hk i _ p (List.getElem?_eq_getElem hi') ep
   rw [ea] at ru
   cases ru
   obtain ⟨its, rv, ⟨o, e1, c, n, d⟩, _⟩ := I.tuple hs
   cases rv with
   | cons r1 rv =>
     cases rv with
     | cons r2 rv =>
       cases rv
       obtain ⟨t, rfl⟩ := r1
       obtain ⟨u, rfl⟩ := r2
       exact ⟨a, o, t, u, n, rfl, e1, c, d⟩
end
end L6
namespace L3
open PySem PySem.Spec
open PyProof.Rows hiding St
open L2
section
variable {X : Cx}
def rFind2 : V → List V → Hp → VK → Prop := fun x vs H Q => ∃ (t y : Str) (i : Int), x = .str t ∧ vs = [.str y, .int i] ∧ Q (.int (Txt.find3 t y i)) H
theorem mt_find2 : MtR X "str.find" rFind2 := by
 intro pins s σ H x vs v us Q I rx rv h
 obtain ⟨t, y, i, rfl, rfl, q⟩ := h
 obtain ⟨tk, rfl⟩ := rx
 cases rv with
 | cons r1 rv =>
   cases rv with
   | cons r2 rv =>
     cases rv
     obtain ⟨t1, rfl⟩ := r1
     obtain ⟨t2, rfl⟩ := r2
     exact SC.find3 ⟨.int _, H, I.tok _, ⟨_, rfl⟩, q⟩
end
section
variable {K : PySem.W.Frag} {O : Ob}
def find2D (fo : DE) (g : DA) : DE := fun ρ Q => fo ρ fun r0 => ∃ t, r0.d = .str t ∧ g ρ fun ds => ∃ y i, ds = [.str y, .int i] ∧ Q (.o (.int (Txt.find3 t y i)))
theorem ed_find2 {to : TE} {ta : TA} {fo : DE} {g : DA} (ho : ED K O to fo) (ha : AD K O ta g) : ED K O (tBM K "str" rFind2 to ta) (find2D fo g) := fun σ H ρ Q Qd S hf k => by
 refine ho σ H ρ _ _ S hf fun v H1 r0 s1 o1 ⟨t, e0, q1⟩ => ?_
 have i0 := o1.is S.ok S.p
 rw [e0] at i0
 cases i0
 refine ⟨rfl, ?_⟩
 refine ha σ H1 ρ _ _ (S.stp s1) q1 fun vs H2 ds s2 is ⟨y, i, e, q⟩ => ?_
 subst e
 cases is with
 | cons i1 is =>
   cases is with
   | cons i2 is =>
     cases is
     cases i1
     cases i2
     exact ⟨t, y, i, rfl, rfl, k _ H2 (.o _) (s1.trans s2) (Is.int _) q⟩
end
end L3
namespace L3
open PySem PySem.Spec
open PyProof.Rows hiding St
open L2
section
variable {ι κ : Type} {P : Program} {w : World} {K : PySem.W.Frag} {mg : Str → Option Value} {base : Heap} {k : Nat} {X : ι → Cx} {O : κ → Ob} {a b c : Expr} {fa fb : DE} {pos p : Pos} {es : List Expr} {ga : DA}
theorem e_find2 {apos : Pos} (C : Ctx3 P w K mg base k X) (ho : E3 K X O a fa) (ha : A3 K X O [b, c] ga) (hbase : ∀ i, attributeBase a "find" (X i).env (eval a (X i).env) = eval a (X i).env := by intro i; rfl)
   (hfew : ∀ i, ((backTo pos (starEach [b, c] (X i).env)).all (fun x => !x.1) && (backToKw pos (keywordEach [] (X i).env)).all (fun x => x.1.isSome) && decide (([b, c] : List Expr).length + ([] : List Keyword).length + (if ([] : List Keyword).isEmpty then 0 else 1) < 30)) = true := by intro i; rfl)
   (hline : (apos.endLine == pos.line) = true := by rfl) (hs : ∀ i, starEach [b, c] (X i).env = (false, eval b (X i).env) :: starEach [c] (X i).env := by intro i; rfl) (hpl : ∀ i, (backTo pos (starEach [c] (X i).env)).any (·.1) = false := by intro i; rfl) : E3 K X O (.Call (.Attribute a "find" apos) [b, c] [] pos) (find2D fa ga) :=
 let ⟨_, p1, d1⟩ := ho; let ⟨_, p2, d2⟩ := ha; ⟨tBM K "str" rFind2 _ _, fun i => by
   have h := pe_bm (apos := apos) (cpos := pos) PySem.F.plainAttrs_str PySem.F.slot_str_find PySem.F.type_str_find (mt_find2 (X := X i)) (p1 i) (p2 i) (hbase i) (hfew i) hline (hs i) (hpl i)
   rw [C.hK] at h
   exact h, fun j => ed_find2 (d1 j) (d2 j)⟩
end
end L3
namespace L3
open PySem PySem.Spec
open PyProof.Rows hiding St
open L2
theorem IsS.sq {K : PySem.W.Frag} {F : Addr → Prop} {H : Hp} {v : V} {n : Nat} (h : IsS K F H v n) : ∃ a xs, v = .ref a ∧ xs.length = n ∧ SqL K H a xs := by
 obtain ⟨a, xs, e, l, ⟨_, q⟩ | q⟩ := h
 · exact ⟨a, xs, e, l, .inl q⟩
 · exact ⟨a, xs, e, l, q H⟩
def lenSD (i : Nat) (m : Int) : DE := fun ρ Q => ∃ l : Nat, ρ[i]? = some (some (.scr l)) ∧ Q (.o (.int (min (l : Int) m)))
section
variable {ι κ : Type} {P : Program} {w : World} {K : PySem.W.Frag} {mg : Str → Option Value} {base : Heap} {k : Nat} {X : ι → Cx} {O : κ → Ob} {a tg : Expr} {fa : DE} {pos p p2 p3 p4 px : Pos}
theorem e_lenS (n : Nat) {x : Str} {m : Int} {jc : Nat} (C : Ctx3 P w K mg base k X) (B : Blt mg) (hm : 0 ≤ m := by decide) (hN : ∀ i, (X i).N[n]? = some x := by intro i; rfl) (hv : ∀ i, Vis (X i).env.scope x := by intro i; first | exact Or.inl rfl | exact Or.inr (Or.inl rfl) | exact Or.inr (Or.inr rfl))
   (hd : (x == ("__debug__" : Str)) = false := by decide) (hcd : (x == ("__classdict__" : Str)) = false := by decide) (hg : ∀ i, Gl (X i) "len" := by intro i; rfl)
   (he : ∀ i, starEach [.Subscript (.Name x px) (.Slice none (some (.Constant (.int m) jc p4)) none p2) p3] (X i).env = (false, eval (.Subscript (.Name x px) (.Slice none (some (.Constant (.int m) jc p4)) none p2) p3) (X i).env) :: starEach [] (X i).env := by intro i; rfl) :
   E3 K X O (.Call (.Name "len" p) [.Subscript (.Name x px) (.Slice none (some (.Constant (.int m) jc p4)) none p2) p3] [] pos) (lenSD n m) := by
 refine ⟨_, fun i => pe_callB (X := X i) (r := fun xs H Q => ∃ x n, xs = [x] ∧ LenV K x H n ∧ Q (.int n) H) (by have h := call_len (X := X i); rw [C.hK] at h; exact h) (hg i) (by rw [C.hmg]; exact B.len) bt_len (pa_cons (pe_slice (r := rSlL K) (by have h := sl_list (X := X i); rw [C.hK] at h; exact h) (pe_var (hN i) (hv i) hd hcd) po_none (po_some pe_int)) pa_nil (he i)) (by decide) (by decide) (he i) rfl, fun j σ H ρ Q Qd S hf k => ?_⟩
 obtain ⟨l, e, q⟩ := hf
 obtain ⟨v, hv', sv⟩ := S.at_ n _ e
 obtain ⟨a, xs, rfl, hl, sq⟩ := IsS.sq sv
 refine ⟨_, hv', ?_⟩
 refine ⟨m, rfl, a, xs, rfl, sq, fun p hp => ⟨.ref p, (cutV xs none (some m)).length, rfl, .inl ⟨_, .of upd_same, rfl⟩, ?_⟩⟩
 have e2 : ((cutV xs none (some m)).length : Int) = min (l : Int) m := by
   have := hl
   simp only [cutV, HT.sIx, List.length_take, List.length_drop]
   split <;> omega
 rw [e2]
 exact k _ _ (.o (.int _)) (.new S.ok hp _) (.int _) q
end
theorem mk_law6 {P : Program} {w : World} {K : PySem.W.Frag} {mg : Str → Option Value} {base : Heap} {k : Nat} {st st0 : Stmt} {rest : List Stmt} {N : List Str} {f₁ : Addr} {fd₁ : FuncData} (Fu : Fun K "law" "law" st f₁ fd₁) (S : FnScope ("_law_script" :: "_law_deal_here" :: N) ["_law_script"] (defScope st))
   (hs : defBody st = st0 :: rest)
   (first : ∀ (f : Addr) (cdv : Value) (A : Around) (outer : List Env) (s : Shared) (H : Hp) (E : XK), Ctx3 P w K mg base k (bodyX P w K mg base ("_law_script" :: "_law_deal_here" :: N) "law" (defScope st) f cdv A outer s H E) →
     PS (bodyX P w K mg base ("_law_script" :: "_law_deal_here" :: N) "law" (defScope st) f cdv A outer s H E ()) st0 (tAsg (tCall (spDeal K) [] E0 (tCons (tVar 0) (tCons (tC (.int 0)) tNil))) (gName 1)))
   (body : ∀ (f : Addr) (cdv : Value) (A : Around) (outer : List Env) (s : Shared) (H : Hp) (E : XK), Ctx3 P w K mg base k (bodyX P w K mg base ("_law_script" :: "_law_deal_here" :: N) "law" (defScope st) f cdv A outer s H E) →
     ∃ g, Ss3 K (bodyX P w K mg base ("_law_script" :: "_law_deal_here" :: N) "law" (defScope st) f cdv A outer s H E) (fun j : Addr × Addr => dealOb j.1 j.2) rest g ∧ ∀ n : Nat, n ≤ 63 → g { nx := fun _ => False, rt := fun r => r = .o (.bool true) } (some (.scr n) :: some .ob :: List.replicate N.length none)) :
   FnOk P w K mg base CX0 (k + 1) f₁ fd₁ ["_law_script"] (spLaw K) := by
 refine Fu.ok S (fun vs H Q E h => by obtain ⟨a, ns, rfl, _⟩ := h; rfl) (fun cdv A outer s H vs Q E hr h => ?_)
 obtain ⟨a, ns, rfl, hS, hl, q⟩ := h
 have C := ctx_body (P := P) (w := w) (K := K) (mg := mg) (base := base) (N := "_law_script" :: "_law_deal_here" :: N) (x := "law") (sc := defScope st) (f := f₁) (cdv := cdv) (A := A) (outer := outer) (s := s) (H := H) (E := E) hr
 obtain ⟨g, ⟨t, h1, h2⟩, h3⟩ := body f₁ cdv A outer s H E C
 refine ⟨tSeq (tAsg (tCall (spDeal K) [] E0 (tCons (tVar 0) (tCons (tC (.int 0)) tNil))) (gName 1)) t, ?_, ?_⟩
 · rw [hs]
   exact pss_cons (first f₁ cdv A outer s H E C) (h1 ())
 · refine ⟨_, rfl, a, ns, rfl, hS, hl, fun p l s left H' hp hln sm pa => ?_⟩
   refine h2 (p, l) H' (fun _ _ => False) _ H' _ _ _ ⟨dealOb_ok p l, ⟨s, 0, left, pa⟩, ⟨s, 0, left, pa⟩, .refl _ _, fun _ _ _ z => z.elim, fun _ _ z => z.elim, fun i r e => ?_, ?_⟩ (h3 ns.length hl) ⟨fun _ _ _ _ _ _ z => z.elim, fun _ _ _ _ _ _ z => z.elim, fun _ _ _ _ _ _ z => z.elim, fun H' v r _ o e => ?_⟩
   · match i with
     | 0 =>
       cases e
       refine ⟨_, rfl, a, ns.map V.int, rfl, by simp, ?_⟩
       rcases hS with (hS | ⟨o, hS⟩) | hS
       · exact .inl ⟨⟨fun m => by rcases m with rfl | rfl <;> simp_all, fun _ z => z⟩, .inl (sm _ _ hS)⟩
       · exact .inl ⟨⟨fun m => by rcases m with rfl | rfl <;> simp_all, fun _ z => z⟩, .inr ⟨o, sm _ _ hS⟩⟩
       · exact .inr fun _ => .inr hS
     | 1 => cases e; exact ⟨_, rfl, rfl⟩
     | i + 2 =>
       rw [List.getElem?_cons_succ, List.getElem?_cons_succ, List.getElem?_replicate] at e
       split at e <;> cases e
   · rw [List.length_set]
     simp [L2.start]
   · subst e
     cases o
     exact q H'
end L3
namespace SX
open PySem PySem.Spec PyProof.Rows
abbrev Es := Array (Int × Value)
def byT (w : World) : Bool := w.params.followText "set-order"
structure Sx (w : World) (h : Heap) (a : Addr) (es : Es) (ep : Nat) (t : SetTable) : Prop where
 at_ : ∃ o, h.get? a = some o ∧ o.ExactSet ∧ o.data = .set es ep t
 lt : es.size < scanBound
 fit : t.fits es.size = true
 led : t.led = !byT w
 pl : 1 < es.size → t.plain = false
end SX
namespace SX
open PySem PySem.Spec PyProof.Rows
section
variable {P : Program} {w : World} {A : Around} {R : Result → Shared → Prop} {I : Addr} {fp wr : List Addr} {G : Array GenState → Array GenState → Prop} {n : Nat} {Pv : Nat → Value → Prop} {St : Nat → Shared → Prop}
theorem Sx.keep {h h' : Heap} {a : Addr} {es : Es} {ep : Nat} {t : SetTable} (S : Sx w h a es ep t) (k : ∀ o, h.get? a = some o → h'.get? a = some o) : Sx w h' a es ep t :=
 { S with at_ := let ⟨o, e, r⟩ := S.at_; ⟨o, k o e, r⟩ }
end
section
variable {P : Program} {w : World} {A : Around} {E : Value → Shared → Prop} {s : Shared}
abbrev eObj (w : World) : Obj := { cls := .type "set", dict := none, data := .set #[] 0 (.fresh 0 0 (!byT w)) }
theorem set_new (v : Value) {Q : Value → Shared → Prop} (h : Q (.ref s.heap.objs.size) { s with heap := s.heap.push (eObj w) }) :
   codeAny (model P w) A (.call (.builtin "set.__new__") ⟨[.type "set", v], []⟩) (wants Q E) s := by
 refine codeAny_of_tree ?_
 refine wpAny_bind (m := checkBuiltinCall "set.__new__" ⟨[.type "set", v], []⟩) (wpAny_of_eq (F.newCall_set_1 v) (wpAny_pure ⟨plainId_quiet F.plain_set_new _, codeAny_builtin F.entry_set_new ?_⟩))
 rw [Around.under_plainId F.plain_set_new _]
 unfold Builtin.«set.__new__» Builtin.Frozenset.newClass
 have hsub := sub_set_self
 obtain ⟨hp, g, d, tk, os⟩ := s
 dsimp only
 wp_walk
 refine wpAny_askSetting (wpAny_pure ?_)
 dsimp only
 simp only [newObj]
 refine wpAny_bind (wpAny_alloc (wpAny_pure ?_))
 exact wpAny_pure h
end
end SX
namespace SX
open PySem PySem.Spec PyProof.Rows
section
variable {P : Program} {w : World} {A : Around} {E : Value → Shared → Prop} {s : Shared}
abbrev Ext (h h' : Heap) : Prop := ∀ b o, h.get? b = some o → h'.get? b = some o
def Src (P : Program) (w : World) (h : Heap) (v : Value) (n : Nat) (Pv : Nat → Value → Prop) : Prop :=
 ∀ (A : Around) (E : Value → Shared → Prop) (s₁ : Shared) (Q : Value → Shared → Prop), A.handled = none → Ext h s₁.heap →
   (∀ I h' fp St, (∀ A' : Around, A'.handled = none → Walks P w A' I fp [I] n Pv St) → St 0 h' → Ext s₁.heap h' → (∀ b ∈ fp, b < h.objs.size ∨ s₁.heap.objs.size ≤ b) → s₁.heap.objs.size ≤ I → Q (.ref I) { s₁ with heap := h' }) →
   wpAny (model P w) A (pyIter v) Q E s₁
end
end SX
namespace SX
open PySem PySem.Spec PyProof.Rows
theorem nx_slot : Slot "set_iterator" "__next__" "set_iterator.__next__" := by
 refine Slot.of (owner := "set_iterator") (n := "__next__") ?_ (by decide +kernel) (by decide +kernel) (by decide +kernel) ?_ ?_
 · rw [typeLookup_type, builtinLookup_eq_fast]
   kernel_rfl
 · first
     | exact .inl (by decide +kernel)
     | exact .inr (by decide +kernel)
 · rw [isSubtype_type]
   kernel_rfl
theorem it_slot : Slot "set_iterator" "__iter__" "set_iterator.__iter__" := by
 refine Slot.of (owner := "set_iterator") (n := "__iter__") ?_ (by decide +kernel) (by decide +kernel) (by decide +kernel) ?_ ?_
 · rw [typeLookup_type, builtinLookup_eq_fast]
   kernel_rfl
 · first
     | exact .inl (by decide +kernel)
     | exact .inr (by decide +kernel)
 · rw [isSubtype_type]
   kernel_rfl
theorem nx_entry : entryFor table "set_iterator.__next__" = some Builtin.«set_iterator.__next__» := by
 refine entryFor_of_tree ?_
 kernel_rfl
theorem it_entry : entryFor table "set_iterator.__iter__" = some Builtin.«dict_keyiterator.__iter__» := by
 refine entryFor_alias (id' := "dict_keyiterator.__iter__") ?_ rfl ?_ ?_
 · kernel_rfl
 · decide +kernel
 · kernel_rfl
theorem set_iter_entry : entryFor table "set.__iter__" = some Builtin.«frozenset.__iter__» := by
 refine entryFor_alias (id' := "frozenset.__iter__") ?_ rfl ?_ ?_
 · kernel_rfl
 · decide +kernel
 · kernel_rfl
theorem owner_it : Manifest.owners.lookup (String.ofList ['r', 'o', 't', 'a', 'r', 'e', 't', 'i', '_', 't', 'e', 's'].reverse) = some Manifest.sig_set_iterator := by kernel_rfl
theorem nx_args (a : Value) : argsOk "set_iterator.__next__" ⟨[a], []⟩ := by
 unfold argsOk
 rw [signature?_of (id := "set_iterator.__next__") (n := ['_', '_', 't', 'x', 'e', 'n', '_', '_']) (o := ['r', 'o', 't', 'a', 'r', 'e', 't', 'i', '_', 't', 'e', 's']) (by kernel_rfl) owner_it]
 kernel_rfl
theorem it_args (a : Value) : argsOk "set_iterator.__iter__" ⟨[a], []⟩ := by
 unfold argsOk
 rw [signature?_of (id := "set_iterator.__iter__") (n := ['_', '_', 'r', 'e', 't', 'i', '_', '_']) (o := ['r', 'o', 't', 'a', 'r', 'e', 't', 'i', '_', 't', 'e', 's']) (by kernel_rfl) owner_it]
 kernel_rfl
theorem cons_erase {α : Type} : ∀ {l : List α} {i : Nat} (h : i < l.length), (l[i] :: l.eraseIdx i).Perm l
 | [], _, h => absurd h (Nat.not_lt_zero _)
 | x :: l, 0, _ => .refl _
 | x :: l, i + 1, h => (List.Perm.swap x _ _).trans ((cons_erase (l := l) (i := i) (Nat.lt_of_succ_lt_succ h)).cons x)
theorem pick_go {α : Type} (f : Nat → Nat) : ∀ (m k : Nat) (l : List α) (out : Array α), l.length = m → (pickOrder.go f m k l out).toList.Perm (out.toList ++ l)
 | 0, k, l, out, h => by
   obtain rfl : l = [] := by cases l with | nil => rfl | cons _ _ => simp at h
   simp [pickOrder.go]
 | m + 1, k, l, out, h => by
   have hi : f k % l.length < l.length := Nat.mod_lt _ (by omega)
   unfold pickOrder.go
   rw [List.getElem?_eq_getElem hi]
   refine (pick_go f m (k + 1) (l.eraseIdx (f k % l.length)) (out.push l[f k % l.length]) (by rw [List.length_eraseIdx]; simp [hi]; omega)).trans ?_
   rw [Array.toList_push, List.append_assoc]
   refine List.Perm.append_left _ ?_
   exact cons_erase hi
theorem pick_perm {α : Type} (f : Nat → Nat) (xs : Array α) : (pickOrder f xs).toList.Perm xs.toList := by
 simpa [pickOrder] using pick_go f xs.size 0 xs.toList #[] (by simp)
end SX
namespace SX
open PySem PySem.Spec PyProof.Rows
section
variable {P : Program} {w : World} {A : Around} {E : Value → Shared → Prop} {s : Shared} {α : Type}
theorem wp_choose {src : Source} {n : Nat} {Q : Nat → Shared → Prop} (hn : n ≠ 0) (h : ∀ i d, i < n → Q i { s with drawn := d }) : wpAny (model P w) A (choose src n) Q E s := fun Γ p _ =>
 ⟨hn, h _ _ (Nat.mod_lt _ (Nat.pos_of_ne_zero hn))⟩
theorem wp_draw : ∀ (m : Nat) (xs : List α) (s : Shared) (Q : List α → Shared → Prop), xs.length = m → (∀ ys d, ys.Perm xs → Q ys { s with drawn := d }) → wpAny (model P w) A (drawOrder m xs) Q E s
 | 0, xs, s, Q, e, h => by
   obtain rfl : xs = [] := List.length_eq_zero_iff.mp e
   exact wpAny_pure (h [] s.drawn .nil)
 | m + 1, [], s, Q, e, h => by cases e
 | m + 1, x :: xs, s, Q, e, h => by
   unfold drawOrder
   refine wpAny_bind (wp_choose (by simp) fun i d hi => ?_)
   rw [List.getElem?_eq_getElem hi]
   refine wpAny_bind (wp_draw m _ _ _ (by rw [List.length_eraseIdx, if_pos hi]; simpa using e) fun ys d2 hp => ?_)
   exact wpAny_pure (h _ d2 ((hp.cons _).trans (cons_erase hi)))
theorem wp_f {c : Prop} [Decidable c] {a b : Sem α} {Q : α → Shared → Prop} (hc : ¬ c) (h : wpAny (model P w) A b Q E s) : wpAny (model P w) A (if c then a else b) Q E s := by
 rw [if_neg hc]
 exact h
theorem wp_t {c : Prop} [Decidable c] {a b : Sem α} {Q : α → Shared → Prop} (hc : c) (h : wpAny (model P w) A a Q E s) : wpAny (model P w) A (if c then a else b) Q E s := by
 rw [if_pos hc]
 exact h
theorem wp_byT {Q : Bool → Shared → Prop} (h : Q (byT w) s) : wpAny (model P w) A setsByText Q E s := by
 unfold setsByText
 exact wpAny_bind (wpAny_askSetting (wpAny_pure h))
theorem Sx.state {a : Addr} {es : Es} {ep : Nat} {t : SetTable} {Q : (Es × Nat × SetTable) → Shared → Prop} (S : Sx w s.heap a es ep t) (h : Q (es, ep, t) s) : wpAny (model P w) A (setState a) Q E s :=
 let ⟨_, ho, _, hd⟩ := S.at_
 wpAny_setState_of ho hd S.fit h
theorem Sx.entries {a : Addr} {es : Es} {ep : Nat} {t : SetTable} {Q : Es → Shared → Prop} (S : Sx w s.heap a es ep t) (h : Q es s) : wpAny (model P w) A (setEntries a) Q E s :=
 let ⟨_, ho, _, hd⟩ := S.at_
 wpAny_setEntries_of ho hd S.fit h
theorem Sx.epoch {a : Addr} {es : Es} {ep : Nat} {t : SetTable} {Q : Nat → Shared → Prop} (S : Sx w s.heap a es ep t) (h : Q ep s) : wpAny (model P w) A (setEpoch a) Q E s :=
 let ⟨_, ho, _, hd⟩ := S.at_
 wpAny_setEpoch_of ho hd S.fit h
abbrev itO (first : Value) (i : Nat) (S : Addr) (n ep : Nat) : Obj := { cls := .type "set_iterator", dict := none, data := .fields #[first, .int i 0, .ref S, .int n 0, .int ep 0], slots := #[] }
theorem wp_stop {Z : α → Shared → Prop} {R : Option Value → Shared → Prop} (hh : A.handled = none) (h : ∀ h', Ext s.heap h' → R none { s with heap := h' }) :
   wpAny (model P w) A.in1 (do raiseNew (← newExc (.type "StopIteration") [])) Z (fun e s₁ => wpAny (model P w) A (do if ← isInstance e (.type "StopIteration") then pure none else throw e) R E s₁) s := by
 refine wpAny_bind ?_
 simp only [newExc, newTuple]
 refine wpAny_bind (wpAny_newObj_type ?_ (by size_fits))
 refine wpAny_bind (m := firstArgMember _ _) (wpAny_of_eq (a := Value.none) (by first | rfl | (simp only [firstArgMember]; rfl)) ?_)
 refine wpAny_newObj_type ?_ (by size_fits)
 simp only [raiseNew]
 refine wpAny_bind (wpAny_handled ?_)
 rw [show A.in1.handled = none from hh]
 refine wpAny_bind (wpAny_pure (wpAny_throw ?_))
 refine wpAny_bind (wpAny_isInstance (T := "StopIteration") (b := true) ⟨_, Heap.get?_push_size _ rfl, rfl⟩ isSubtype_stop ?_)
 exact wpAny_pure (h _ fun b o e => Heap.get?_push_of_some _ (Heap.get?_push_of_some _ e))
end
end SX
namespace SX
open PySem PySem.Spec PyProof.Rows
section
variable {P : Program} {w : World} {A : Around} {E : Value → Shared → Prop} {s : Shared} {it S : Addr} {es : Es} {ep : Nat} {t : SetTable}
theorem nxt_num {first : Value} {sl : Nat} {i : Nat} {R : Option Value → Shared → Prop} (hf : first = .int sl 0) (ho : s.heap.get? it = some (itO first i S es.size ep)) (T : Sx w s.heap S es ep t)
   (h : wpAny (model P w) A.in1 (setNext S sl i ep) (fun r s₁ => s₁ = s ∧ match r with
     | some (x, nx) => ∀ h', h'.get? it = some (itO (.int nx 0) (i + 1) S es.size ep) → Heap.SameBut it s.heap h' → R (some x) { s with heap := h' }
     | none => ∀ h', (∀ b o, b ≠ it → s.heap.get? b = some o → h'.get? b = some o) → R none { s with heap := h' }) (fun _ _ => False) s) (hh : A.handled = none) : wpAny (model P w) A (pyNext (.ref it)) R E s := by
 subst hf
 have hT : s.TypeIs (.ref it) "set_iterator" := ⟨_, ho, rfl⟩
 unfold pyNext
 refine wpAny_bind (wpAny_attempt (wpAny_callSpecial?_slot (name := Str.ofString "__next__") hT nx_slot (wpAny_call_entry nx_slot hT nx_entry ?_ (nx_args _))))
 unfold Builtin.«set_iterator.__next__»
 refine wpAny_bind (wpAny_pure ?_)
 refine wpAny_bind (wpAny_fieldsOf ho rfl ?_)
 refine wpAny_bind (T.entries ?_)
 refine wp_f (by simp) ?_
 refine wpAny_bind (wpAny_mono h (fun r s₁ q => ?_) fun _ _ z => z.elim)
 obtain ⟨rfl, q⟩ := q
 match r, q with
 | some (x, nx), q =>
   refine wpAny_bind (wpAny_setField_rec ho (by simp) fun h1 e1 b1 => ?_)
   refine wpAny_bind (wpAny_setField_rec (s := { s₁ with heap := h1 }) e1 (by simp) fun h2 e2 b2 => ?_)
   refine wpAny_pure ⟨x, rfl, wpAny_pure (q h2 ?_ (b1.trans b2))⟩
   exact e2
 | none, q =>
   refine wpAny_bind (wpAny_setField_rec ho (by simp) fun h1 e1 b1 => ?_)
   exact wp_stop (s := { s₁ with heap := h1 }) hh fun h' ex => q h' fun b o n e => ex b o ((b1.2 b n).trans e)
end
end SX
namespace SX
open PySem PySem.Spec PyProof.Rows
section
variable {P : Program} {w : World} {A : Around} {E : Value → Shared → Prop} {s : Shared} {it S : Addr} {es : Es} {ep : Nat} {t : SetTable}
theorem num_A {sl i : Nat} {Q : Option (Value × Nat) → Shared → Prop} (hb : byT w = true) (T : Sx w s.heap S es ep t) (h : Q (((pickOrder (w.params.setOrder S ep) es)[i]?).map fun e => (e.2, sl)) s) : wpAny (model P w) A (setNext S sl i ep) Q E s := by
 unfold setNext
 refine wpAny_bind (T.state ?_)
 refine wpAny_bind (wp_byT ?_)
 rw [hb]
 refine wp_t rfl ?_
 refine wp_f (by simp) ?_
 refine wpAny_bind ?_
 unfold setWalk
 refine wpAny_bind (T.state ?_)
 refine wpAny_bind (wp_byT ?_)
 rw [hb]
 refine wp_t rfl ?_
 exact wpAny_bind (wpAny_askSetting (wpAny_pure (wpAny_pure h)))
theorem num_C {sl i : Nat} {Q : Option (Value × Nat) → Shared → Prop} (hb : byT w = false) (hz : es.size ≤ 1) (T : Sx w s.heap S es ep t) (h : Q (match es[SetTable.below t.place sl]?, t.place[SetTable.below t.place sl]? with
   | some (_, x), some j => some (x, j + 1)
   | _, _ => none) s) : wpAny (model P w) A (setNext S sl i ep) Q E s := by
 unfold setNext
 refine wpAny_bind (T.state ?_)
 refine wpAny_bind (wp_byT ?_)
 rw [hb]
 refine wp_f (by decide) ?_
 refine wp_f (show ¬ ((!t.plain && decide (es.size > 1)) = true) by simp; omega) ?_
 refine wpAny_bind (m := if (!t.led && !es.isEmpty) = true then unsupported "set:maker-not-led" else pure ()) (wp_f (by rw [T.led, hb]; simp) (wpAny_pure ?_))
 exact wpAny_pure h
theorem nxt_tup {Tp : Addr} {pls : List Value} {c : Nat} {i : Nat} {R : Option Value → Shared → Prop} (ho : s.heap.get? it = some (itO (.ref Tp) i S es.size ep)) (hp : s.heap.get? Tp = some { cls := .type "tuple", data := .seq pls.toArray c }) (T : Sx w s.heap S es ep t)
   (h : match pls[i]? with
     | some v => ∃ (j : Nat) (e : Int × Value), v = .int j 0 ∧ es[j]? = some e ∧ ∀ h', h'.get? it = some (itO (.ref Tp) (i + 1) S es.size ep) → Heap.SameBut it s.heap h' → R (some e.2) { s with heap := h' }
     | none => ∀ h', (∀ b o, b ≠ it → s.heap.get? b = some o → h'.get? b = some o) → R none { s with heap := h' }) (hh : A.handled = none) : wpAny (model P w) A (pyNext (.ref it)) R E s := by
 have hT : s.TypeIs (.ref it) "set_iterator" := ⟨_, ho, rfl⟩
 unfold pyNext
 refine wpAny_bind (wpAny_attempt (wpAny_callSpecial?_slot (name := Str.ofString "__next__") hT nx_slot (wpAny_call_entry nx_slot hT nx_entry ?_ (nx_args _))))
 unfold Builtin.«set_iterator.__next__»
 refine wpAny_bind (wpAny_pure ?_)
 refine wpAny_bind (wpAny_fieldsOf ho rfl ?_)
 refine wpAny_bind (T.entries ?_)
 refine wp_f (by simp) ?_
 refine wpAny_bind (wpAny_seqItems hp rfl ?_)
 have ea : (pls.toArray)[(i : Int).toNat]? = pls[i]? := by simp
 dsimp only
 rw [ea]
 cases hv : pls[i]? with
 | some v =>
   rw [hv] at h
   obtain ⟨j, e, rfl, he, h⟩ := h
   dsimp only
   refine wpAny_bind ?_
   unfold setNextDrawn
   refine wpAny_bind (T.state ?_)
   refine wp_f (by simp) ?_
   have ej : es[(j : Int).toNat]? = some e := by simpa using he
   rw [ej]
   refine wpAny_pure ?_
   refine wpAny_bind (wpAny_setField_rec ho (by simp) fun h1 e1 b1 => ?_)
   exact wpAny_pure ⟨_, rfl, wpAny_pure (h h1 e1 b1)⟩
 | none =>
   rw [hv] at h
   dsimp only
   refine wpAny_bind (wpAny_setField_rec ho (by simp) fun h1 e1 b1 => ?_)
   refine wpAny_bind (wpAny_setField_rec (s := { s with heap := h1 }) e1 (by simp) fun h2 e2 b2 => ?_)
   exact wp_stop (s := { s with heap := h2 }) hh fun h' ex => h h' fun b o n e => ex b o ((b2.2 b n).trans ((b1.2 b n).trans e))
theorem it_self {first : Value} {i n : Nat} {Q : Value → Shared → Prop} (ho : s.heap.get? it = some (itO first i S n ep)) (h : Q (.ref it) s) : wpAny (model P w) A (pyIter (.ref it)) Q E s := by
 have hT : s.TypeIs (.ref it) "set_iterator" := ⟨_, ho, rfl⟩
 refine wpAny_pyIter_slot hT it_slot (wpAny_call_entry it_slot hT it_entry ?_ (it_args _))
 exact wpAny_pure ⟨_, rfl, "set_iterator", _, hT, nx_slot.lookup, h⟩
end
end SX
namespace SX
open PySem PySem.Spec PyProof.Rows
section
variable {P : Program} {w : World} {A : Around} {E : Value → Shared → Prop} {s : Shared} {it S : Addr} {es : Es} {ep : Nat} {t : SetTable}
def ordP (ord : List (Int × Value)) : Nat → Value → Prop := fun i v => ∃ e, ord[i]? = some e ∧ v = e.2
theorem walk_A (hh : A.handled = none) (hb : byT w = true) (ne : S ≠ it) :
   Walks P w A it [it, S] [it] (pickOrder (w.params.setOrder S ep) es).toList.length (ordP (pickOrder (w.params.setOrder S ep) es).toList) (fun i h => (∃ sl : Nat, h.get? it = some (itO (.int sl 0) i S es.size ep)) ∧ Sx w h S es ep t) where
 sub := fun b z => by simp at z; simp [z]
 frame := fun i h h' st k => ⟨let ⟨sl, e⟩ := st.1; ⟨sl, k it (by simp) _ e⟩, st.2.keep fun o e => k S (by simp) o e⟩
 item := fun i s Q E hi st k => by
   obtain ⟨⟨sl, ho⟩, T⟩ := st
   refine nxt_num rfl ho T (num_A hb T ⟨rfl, ?_⟩) hh
   have hx : (pickOrder (w.params.setOrder S ep) es)[i]? = some ((pickOrder (w.params.setOrder S ep) es).toList[i]) := by
     rw [← Array.getElem?_toList]
     exact List.getElem?_eq_getElem hi
   rw [hx]
   refine fun h' e' sb => k _ h' s.toks ⟨_, List.getElem?_eq_getElem hi, rfl⟩ ⟨⟨sl, e'⟩, T.keep fun o e => (sb.2 S ne).trans e⟩ fun b o nb e => (sb.2 b (by simpa using nb)).trans e
 done := fun s Q E st k => by
   obtain ⟨⟨sl, ho⟩, T⟩ := st
   refine nxt_num rfl ho T (num_A hb T ⟨rfl, ?_⟩) hh
   rw [show (pickOrder (w.params.setOrder S ep) es)[(pickOrder (w.params.setOrder S ep) es).toList.length]? = none by simp]
   exact fun h' kp => k h' s.toks fun b o nb e => kp b o (by simpa using nb) e
 self := fun i s Q E st h => it_self st.1.choose_spec h
theorem fm_map : ∀ {js : List Nat}, (∀ j ∈ js, j < es.size) → (js.filterMap fun j => es[j]?) = js.map fun j => es[j]?.getD (0, .none)
 | [], _ => rfl
 | j :: js, hj => by
   obtain ⟨e, h1⟩ : ∃ e, es[j]? = some e := ⟨_, Array.getElem?_eq_getElem (hj j (by simp))⟩
   rw [List.filterMap_cons_some h1, List.map_cons, h1, fm_map fun x z => hj x (List.mem_cons_of_mem _ z)]
   rfl
theorem walk_B {Tp : Addr} {ord : List (Int × Value)} {js : List Nat} (hh : A.handled = none) (ne : S ≠ it) (nt : Tp ≠ it) (ho : ord = js.filterMap fun j => es[j]?) (hj : ∀ j ∈ js, j < es.size) :
   Walks P w A it [it, S, Tp] [it] ord.length (ordP ord) (fun i h => h.get? it = some (itO (.ref Tp) i S es.size ep) ∧ Sx w h S es ep t ∧ h.get? Tp = some { cls := .type "tuple", data := .seq (js.map fun (j : Nat) => Value.int j 0).toArray }) where
 sub := fun b z => by simp at z; simp [z]
 frame := fun i h h' st k => ⟨k it (by simp) _ st.1, st.2.1.keep fun o e => k S (by simp) o e, k Tp (by simp) _ st.2.2⟩
 item := fun i s Q E hi st k => by
   obtain ⟨hi1, T, ht⟩ := st
   have el := ho.trans (fm_map hj)
   have hl : i < js.length := by rw [el] at hi; simpa using hi
   obtain ⟨e, h1⟩ : ∃ e, es[js[i]]? = some e := ⟨_, Array.getElem?_eq_getElem (hj _ (List.getElem_mem hl))⟩
   refine nxt_tup hi1 ht T ?_ hh
   rw [List.getElem?_map, List.getElem?_eq_getElem hl]
   refine ⟨js[i], _, rfl, h1, fun h' e' sb => k _ h' s.toks ⟨e, ?_, rfl⟩ ⟨e', T.keep fun o e => (sb.2 S ne).trans e, (sb.2 Tp nt).trans ht⟩ fun b o nb e => (sb.2 b (by simpa using nb)).trans e⟩
   rw [el, List.getElem?_map, List.getElem?_eq_getElem hl]
   show some (es[js[i]]?.getD (0, .none)) = _
   rw [h1]
   rfl
 done := fun s Q E st k => by
   obtain ⟨hi1, T, ht⟩ := st
   have el : ord.length = js.length := by rw [ho.trans (fm_map hj)]; simp
   refine nxt_tup hi1 ht T ?_ hh
   rw [List.getElem?_map, List.getElem?_eq_none (by omega)]
   exact fun h' kp => k h' s.toks fun b o nb e => kp b o (by simpa using nb) e
 self := fun i s Q E st h => it_self st.1 h
theorem below_one {p : Array Nat} {sl : Nat} (h : p.size = 1) : SetTable.below p sl = if p.getD 0 sl < sl then 1 else 0 := by
 unfold SetTable.below
 rw [h]
 unfold SetTable.below.go
 rw [if_pos (by omega)]
 show (if p.getD 0 sl < sl then SetTable.below.go p sl 0 1 1 else SetTable.below.go p sl 0 0 0) = _
 split <;> rfl
theorem walk_C (hh : A.handled = none) (hb : byT w = false) (hz : es.size ≤ 1) (ne : S ≠ it) :
   Walks P w A it [it, S] [it] es.toList.length (ordP es.toList) (fun i h => (∃ sl : Nat, (i = 0 → sl = 0) ∧ (i = 1 → ∃ j, t.place[0]? = some j ∧ sl = j + 1) ∧ h.get? it = some (itO (.int sl 0) i S es.size ep)) ∧ Sx w h S es ep t) where
 sub := fun b z => by simp at z; simp [z]
 frame := fun i h h' st k => ⟨let ⟨sl, e0, e1, e⟩ := st.1; ⟨sl, e0, e1, k it (by simp) _ e⟩, st.2.keep fun o e => k S (by simp) o e⟩
 item := fun i s Q E hi st k => by
   obtain ⟨⟨sl, h0, _, ho⟩, T⟩ := st
   have hi' : i < es.size := by simpa using hi
   obtain rfl : i = 0 := by omega
   obtain rfl := h0 rfl
   have f1 : t.place.size = 1 := by
     have := T.fit
     simp only [SetTable.fits, Bool.and_eq_true, beq_iff_eq] at this
     omega
   have hbel : SetTable.below t.place 0 = 0 := by rw [below_one f1, if_neg (Nat.not_lt_zero _)]
   refine nxt_num rfl ho T (num_C hb hz T ⟨rfl, ?_⟩) hh
   rw [hbel]
   have e1 : es[0]? = some es[0] := Array.getElem?_eq_getElem hi'
   have e2 : t.place[0]? = some t.place[0] := Array.getElem?_eq_getElem (by omega)
   rw [e1, e2]
   refine fun h' e' sb => k _ h' s.toks ⟨es[0], by rw [Array.getElem?_toList]; exact e1, rfl⟩ ⟨⟨t.place[0] + 1, fun z => by omega, fun _ => ⟨_, e2, rfl⟩, e'⟩, T.keep fun o e => (sb.2 S ne).trans e⟩ fun b o nb e => (sb.2 b (by simpa using nb)).trans e
 done := fun s Q E st k => by
   obtain ⟨⟨sl, _, h1, ho⟩, T⟩ := st
   have f1 : t.place.size = es.size := by
     have := T.fit
     simp only [SetTable.fits, Bool.and_eq_true, beq_iff_eq] at this
     omega
   refine nxt_num rfl ho T (num_C hb hz T ⟨rfl, ?_⟩) hh
   have none' : es[SetTable.below t.place sl]? = none := by
     by_cases h : es.size = 0
     · exact Array.getElem?_eq_none (by omega)
     · obtain ⟨j, e1, e2⟩ := h1 (by simp; omega)
       rw [below_one (by omega), Array.getD_eq_getD_getElem?, e1, e2]
       show es[if j < j + 1 then 1 else 0]? = none
       rw [if_pos (Nat.lt_succ_self _)]
       exact Array.getElem?_eq_none (by omega)
   rw [none']
   exact fun h' kp => k h' s.toks fun b o nb e => kp b o (by simpa using nb) e
 self := fun i s Q E st h => it_self st.1.choose_spec.2.2 h
end
end SX
namespace SX
open PySem PySem.Spec PyProof.Rows
section
variable {P : Program} {w : World} {A : Around} {E : Value → Shared → Prop} {s : Shared} {it S : Addr} {es : Es} {ep : Nat} {t : SetTable}
theorem Sx.typ (T : Sx w s.heap S es ep t) : s.TypeIs (.ref S) "set" := let ⟨_, ho, hx, _⟩ := T.at_; ⟨_, ho, hx.1⟩
theorem Sx.lts (T : Sx w s.heap S es ep t) : S < s.heap.objs.size := let ⟨_, ho, _⟩ := T.at_; Heap.lt_size ho
theorem wp_drawn {Q : Bool → Shared → Prop} (T : Sx w s.heap S es ep t) (h : Q (!byT w && decide (es.size > 1)) s) : wpAny (model P w) A (setDrawn S) Q E s := by
 unfold setDrawn
 refine wpAny_bind (T.state ?_)
 refine wpAny_bind (wp_byT ?_)
 have e : (!byT w && (!t.plain && decide (es.size > 1))) = (!byT w && decide (es.size > 1)) := by
   by_cases hz : 1 < es.size
   · rw [T.pl hz]; simp
   · simp [hz]
 refine wpAny_pure ?_
 show Q (!byT w && (!t.plain && decide (es.size > 1))) s
 rw [e]
 exact h
theorem iter_set {Q : Value → Shared → Prop} (T : Sx w s.heap S es ep t)
   (k : ∀ (it : Addr) (h' : Heap) (d' : Drawn) (ord : List (Int × Value)) (fp : List Addr) (St : Nat → Heap → Prop), ord.Perm es.toList → (∀ A' : Around, A'.handled = none → Walks P w A' it fp [it] ord.length (ordP ord) St) → St 0 h' → Ext s.heap h' → (∀ b ∈ fp, b < s.heap.objs.size → b = S) → (∀ b ∈ fp, b < h'.objs.size) → s.heap.objs.size ≤ it → it ∈ fp → Q (.ref it) { s with heap := h', drawn := d' }) :
   wpAny (model P w) A (pyIter (.ref S)) Q E s := by
 have hlt := T.lts
 refine wpAny_pyIter_slot T.typ F.slot_set_iter (wpAny_call_entry F.slot_set_iter T.typ set_iter_entry ?_ (F.args_set_iter_1 _))
 unfold Builtin.«frozenset.__iter__»
 refine wpAny_bind (m := Builtin.Frozenset.slot0 "__iter__" ⟨[.ref S], []⟩) (wpAny_pure ?_)
 refine wpAny_bind (wpAny_bind (T.entries (wpAny_pure ?_)))
 refine wpAny_bind (wp_drawn T ?_)
 have sz : ∀ (h : Heap) (o : Obj), (h.push o).objs.size = h.objs.size + 1 := fun h o => Heap.size_push ..
 cases hd : (!byT w && decide (es.size > 1)) with
 | true =>
   refine wp_t rfl ?_
   refine wpAny_bind (wp_draw es.size _ _ _ (by simp) fun js d hp => ?_)
   have hz : js.length ≤ sizeLine := by
     have := fits_of_scanBound T.lt
     rw [hp.length_eq, List.length_range]
     exact this
   refine wpAny_bind (wpAny_newTuple ?_ (by rw [List.length_map]; exact hz))
   have T1 : Sx w (s.heap.push { cls := .type "tuple", data := .seq (js.map fun (j : Nat) => rawInt j).toArray }) S es ep t := T.keep fun o e => Heap.get?_push_of_some _ e
   refine wpAny_bind (Sx.epoch (s := { s with heap := s.heap.push { cls := .type "tuple", data := .seq (js.map fun (j : Nat) => rawInt j).toArray }, drawn := d }) T1 ?_)
   refine wpAny_bind (wpAny_newObj_type (wpAny_pure ⟨_, rfl, "set_iterator", _, ⟨_, Heap.get?_push_size _ rfl, rfl⟩, nx_slot.lookup, ?_⟩))
   have hj : ∀ j ∈ js, j < es.size := fun j z => List.mem_range.mp (hp.mem_iff.mp z)
   refine k _ _ d (js.filterMap fun j => es[j]?) [(s.heap.push { cls := .type "tuple", data := .seq (js.map fun (j : Nat) => rawInt j).toArray }).objs.size, S, s.heap.objs.size] _ ?_ (fun A' hA => walk_B (t := t) (ep := ep) hA ?_ ?_ rfl hj) ⟨Heap.get?_push_size _ rfl, T1.keep fun o e => Heap.get?_push_of_some _ e, Heap.get?_push_of_some _ (Heap.get?_push_size _ rfl)⟩ (fun b o e => Heap.get?_push_of_some _ (Heap.get?_push_of_some _ e)) ?_ ?_ ?_ (by simp)
   · refine (hp.filterMap _).trans ?_
     rw [filterMap_getElem?_range]
   · rw [sz]; exact Nat.ne_of_lt (Nat.lt_succ_of_lt hlt)
   · rw [sz]; exact Nat.ne_of_lt (Nat.lt_succ_self _)
   · intro b hb hl
     rw [sz] at hb
     simp at hb
     rcases hb with rfl | rfl | rfl
     · exact absurd hl (Nat.not_lt.mpr (Nat.le_succ _))
     · rfl
     · exact absurd hl (Nat.lt_irrefl _)
   · intro b hb
     rw [sz] at hb
     rw [sz, sz]
     simp at hb
     rcases hb with rfl | rfl | rfl
     · exact Nat.lt_succ_self _
     · exact Nat.lt_succ_of_lt (Nat.lt_succ_of_lt hlt)
     · exact Nat.lt_succ_of_lt (Nat.lt_succ_self _)
   · rw [sz]; exact Nat.le_succ _
 | false =>
   refine wp_f (by decide) (wpAny_bind (wpAny_pure ?_))
   refine wpAny_bind (T.epoch ?_)
   refine wpAny_bind (wpAny_newObj_type (wpAny_pure ⟨_, rfl, "set_iterator", _, ⟨_, Heap.get?_push_size _ rfl, rfl⟩, nx_slot.lookup, ?_⟩))
   have ne : S ≠ s.heap.objs.size := Nat.ne_of_lt hlt
   have fpo : ∀ b ∈ [s.heap.objs.size, S], b < s.heap.objs.size → b = S := fun b hb hl => by
     simp at hb
     rcases hb with rfl | rfl
     · exact absurd hl (Nat.lt_irrefl _)
     · rfl
   have fpl : ∀ o : Obj, ∀ b ∈ [s.heap.objs.size, S], b < (s.heap.push o).objs.size := fun o b hb => by
     rw [sz]
     simp at hb
     rcases hb with rfl | rfl
     · exact Nat.lt_succ_self _
     · exact Nat.lt_succ_of_lt hlt
   cases hb : byT w with
   | true =>
     exact k _ _ s.drawn _ [s.heap.objs.size, S] _ (pick_perm _ es) (fun A' hA => walk_A (t := t) hA hb ne) ⟨⟨0, Heap.get?_push_size _ rfl⟩, T.keep fun o e => Heap.get?_push_of_some _ e⟩ (fun b o e => Heap.get?_push_of_some _ e) fpo (fpl _) (Nat.le_refl _) (by simp)
   | false =>
     have hz : es.size ≤ 1 := by rw [hb] at hd; simpa using hd
     exact k _ _ s.drawn es.toList [s.heap.objs.size, S] _ (.refl _) (fun A' hA => walk_C (t := t) (ep := ep) hA hb hz ne) ⟨⟨0, fun _ => rfl, fun z => absurd z (by decide), Heap.get?_push_size _ rfl⟩, T.keep fun o e => Heap.get?_push_of_some _ e⟩ (fun b o e => Heap.get?_push_of_some _ e) fpo (fpl _) (Nat.le_refl _) (by simp)
end
end SX
namespace SX
open PySem PySem.Spec PyProof.Rows
section
variable {P : Program} {w : World} {A : Around} {E : Value → Shared → Prop} {s : Shared} {it S : Addr} {es : Es} {ep : Nat} {t : SetTable}
abbrev lO (xs : Array Value) (c : Nat) : Obj := { cls := .type "list", dict := none, data := .seq xs c, slots := #[] }
theorem set_self : isSubtype (.type "set") (.type "set") = pure true := by
 rw [isSubtype_type]
 kernel_rfl
theorem upd_at {a : Addr} {xs : Array Value} {c : Nat} (f : Array Value → Array Value) {Q : Unit → Shared → Prop} (ho : s.heap.get? a = some (lO xs c)) (hz : xs.size ≤ sizeLine) (hz2 : (f xs).size ≤ sizeLine + 1)
   (h : ∀ h' c', h'.get? a = some (lO (f xs) c') → Heap.SameBut a s.heap h' → Q () { s with heap := h' }) : wpAny (model P w) A (Builtin.List.listUpdate (.ref a) f) Q E s :=
 listUpdate_at ho rfl (h _ _ (Heap.get?_update_self (Obj.mapSeq f) ho rfl) (.update ..)) hz hz2
theorem collect_set {Q : List Value → Shared → Prop} (hh : A.handled = none) (T : Sx w s.heap S es ep t)
   (k : ∀ (h' : Heap) (d' : Drawn) (tk : Nat) (vs : List Value), Ext s.heap h' → vs.Perm (es.toList.map (·.2)) → s.heap.objs.size < h'.objs.size → Q vs { s with heap := h', drawn := d', toks := tk }) : wpAny (model P w) A (collect (.ref S)) Q E s := by
 have hlt := T.lts
 unfold collect
 refine wpAny_bind (wpAny_runValue (codeAny_builtin F.entry_proto_collect ?_))
 rw [Around.under_plainId F.plain_proto_collect _]
 refine wpAny_bind (m := newList []) (wpAny_newObj_type ?_)
 refine wpAny_pure ⟨plainId_quiet F.plain_list_iadd _, codeAny_builtin F.entry_list_iadd ?_⟩
 rw [Around.under_plainId F.plain_list_iadd _]
 have T1 : Sx w (s.heap.push (lO #[] 0)) S es ep t := T.keep fun o e => Heap.get?_push_of_some _ e
 have eL : (s.heap.push (lO #[] 0)).get? s.heap.objs.size = some (lO #[] 0) := Heap.get?_push_size _ rfl
 have sz1 : (s.heap.push (lO #[] 0)).objs.size = s.heap.objs.size + 1 := Heap.size_push ..
 show wpAny _ A.in1 (Builtin.List.listExtendWith (.ref s.heap.objs.size) (.ref S) (.ref s.heap.objs.size)) _ _ { s with heap := s.heap.push (lO #[] 0) }
 unfold Builtin.List.listExtendWith
 refine wpAny_bind (wpAny_typeOf (T1.typ (s := { s with heap := s.heap.push (lO #[] 0) })) ?_)
 have nsr : Builtin.List.listSameRef (.ref s.heap.objs.size) (.ref S) = false := by
   show (s.heap.objs.size == S) = false
   exact beq_eq_false_iff_ne.mpr (Nat.ne_of_gt hlt)
 rw [nsr]
 refine wp_f (by decide) ?_
 refine wpAny_bind (iter_set (s := { s with heap := s.heap.push (lO #[] 0) }) T1 fun it h2 d2 ord fp St hp W st ex fpo fpl hit hmem => ?_)
 have T2 : Sx w h2 S es ep t := T1.keep fun o e => ex _ o e
 have tS : Shared.TypeIs { s with heap := h2, drawn := d2 } (.ref S) "set" := T2.typ (s := { s with heap := h2, drawn := d2 })
 refine wpAny_bind (wpAny_holding ?_)
 unfold Builtin.List.listLengthHint
 refine wpAny_bind (wpAny_specialOf tS F.slot_set_len.lookup ?_)
 generalize hid : ("set.__len__" : String) = id0
 (fail_if_success (clear hid id0))
 wp_delta
 rw [show splitId id0 = some ("set", "__len__") from by subst hid; decide +kernel]
 subst hid
 refine wpAny_bind (wpAny_isInstance (b := true) tS set_self ?_)
 refine wp_f (by decide) ?_
 refine wp_t (by decide +kernel) ?_
 refine wpAny_bind (wpAny_typeOf tS ?_)
 refine wpAny_pure ?_
 refine wp_t (by decide +kernel) ?_
 refine wpAny_bind (wpAny_rule ?_)
 refine wpAny_bind ?_
 unfold Builtin.List.listTouch
 have h64 : (0 : Nat) ≤ sizeLine := Nat.zero_le _
 have eL2 : h2.get? s.heap.objs.size = some (lO #[] 0) := ex _ _ eL
 refine wpAny_bind (upd_at (s := { s with heap := h2, drawn := d2 }) (·.push Value.none) eL2 h64 (by simp) fun h3 c3 e3 b3 => ?_)
 refine upd_at (s := { s with heap := h3, drawn := d2 }) (·.pop) e3 (by rw [sizeLine_eq]; decide) (by simp) fun h4 c4 e4 b4 => ?_
 have nLf : s.heap.objs.size ∉ fp := fun z => by
   have := fpo _ z (by rw [sz1]; exact Nat.lt_succ_self _)
   exact Nat.ne_of_gt hlt this
 have st4 : St 0 h4 := (W A hh).frame 0 h2 h4 st fun b hb o e => by
   have nb : b ≠ s.heap.objs.size := fun z => nLf (z ▸ hb)
   exact (b4.2 b nb).trans ((b3.2 b nb).trans e)
 have hn : ord.length ≤ sizeLine := by
   rw [hp.length_eq, Array.length_toList]
   exact fits_of_scanBound T.lt
 refine wpAny_pure ⟨plainId_quiet F.plain_extend_loop _, codeAny_extend_loopS (W A.in1 (by simpa using hh)).toS hn _ nLf _ ord.length 0 { s with heap := h4, drawn := d2 } #[] c4 rfl (Nat.zero_le _) st4 e4 (ItemsOf.nil _) fun s' acc c mv eA hacc => ?_⟩
 refine wpAny_bind (wpAny_load eA (wpAny_pure ?_))
 obtain ⟨h5, g5, d5, tk5, os5⟩ := s'
 obtain rfl : g5 = s.gens := mv.gens
 obtain rfl : d5 = d2 := mv.drawn
 obtain rfl : os5 = s.os := mv.os
 have ev : acc.toList = ord.map (·.2) := by
   refine List.ext_getElem? fun i => ?_
   rw [Array.getElem?_toList]
   by_cases hi : i < acc.size
   · rw [Array.getElem?_eq_getElem hi]
     obtain ⟨e, h1, h2⟩ := hacc.2 i _ (Array.getElem?_eq_getElem hi)
     rw [List.getElem?_map, h1, h2]
     rfl
   · rw [Array.getElem?_eq_none (by omega), List.getElem?_map, List.getElem?_eq_none (by have := hacc.1; omega)]
     rfl
 refine k h5 d5 tk5 acc.toList (fun b o e => mv.heap b o (fun z => ?_) ?_) (by rw [ev]; exact hp.map _) (Heap.lt_size eA)
 · have hbl := Heap.lt_size e
   rcases List.mem_cons.mp z with z | z
   · exact Nat.ne_of_lt hbl z
   · rw [List.mem_singleton.mp z] at hbl
     have : s.heap.objs.size + 1 ≤ it := by rw [← sz1]; exact hit
     exact absurd hbl (Nat.not_lt.mpr (Nat.le_of_succ_le this))
 · have nb : b ≠ s.heap.objs.size := Nat.ne_of_lt (Heap.lt_size e)
   exact (b4.2 b nb).trans ((b3.2 b nb).trans (ex b o (Heap.get?_push_of_some _ e)))
end
end SX
namespace L3
open PySem PySem.Spec
open PyProof.Rows hiding St
open L2
open SX
theorem Inv.draw {X : Cx} {pins : List (Addr × Obj)} {σ : List (Option V)} {H : Hp} {s : Shared} (I : Inv X pins σ H s) (d : Drawn) : Inv X pins σ H { s with drawn := d } :=
 ⟨I.ok, I.os, I.bare, I.base, I.loc, I.cell, I.free, I.freeC, I.pin, I.hok, I.len⟩
theorem src_ls {P : Program} {w : World} {h : Heap} {l : Addr} {items : Array Value} (hl : h.IsList l items) : Src P w h (.ref l) items.size (fun i v => items[i]? = some v) := fun A E s₁ Q hh ex k => by
 have hl1 : s₁.heap.IsList l items := hl.at fun o e => ex l o e
 have lt : l < h.objs.size := by obtain ⟨o, e, _⟩ := hl; exact Heap.lt_size e
 have lt1 : l < s₁.heap.objs.size := by obtain ⟨o, e, _⟩ := hl1; exact Heap.lt_size e
 refine wpAny_pyIter_list hl1 ?_
 refine k s₁.heap.objs.size _ [s₁.heap.objs.size, l] _ (fun A' hA => Walks.list hA _ l (Nat.ne_of_lt lt1) items) ⟨⟨_, Heap.get?_push_size _ rfl, rfl, rfl⟩, hl1.push _⟩ (fun b o e => Heap.get?_push_of_some _ e) (fun b hb => ?_) (Nat.le_refl _)
 simp at hb
 rcases hb with rfl | rfl
 · exact .inr (Nat.le_refl _)
 · exact .inl lt
end L3
namespace L3
open PySem PySem.Spec
open PyProof.Rows hiding St
open L2
theorem eq_list {n b n' b' : Nat} {neg : Bool} {ds es : List PyData} (h : Nice n b (.tuple ds)) (h' : Nice n' b' (.tuple es)) (hn : n ≤ 60 := by decide) {q : Bool} (hq : q = true ↔ ds = es) : eqF neg (.list ds) (.list es) = some (.o (.bool (if neg then !q else q))) := by
 have o1 : okD (.list ds) = true := by
   have := h.okD hn
   unfold okD at this ⊢
   simpa [PyData.canLay0, PyData.depth] using this
 have o2 : (PyData.list es).canLay0 = true := by simpa [PyData.canLay0] using h'.lay
 unfold eqF
 rw [if_pos (by rw [o1, o2]; rfl)]
 have e1 : PyData.eqv (.list ds) (.list es) = q := by
   have := (eqv_solids ds es (by simpa [solid] using h.sol) (by simpa [solid] using h'.sol)).trans hq.symm
   simp only [PyData.eqv]
   cases h1 : PyData.eqvAll ds es <;> cases q <;> simp_all
 rw [e1]
theorem repr_list {n b : Nat} {ds : List PyData} (h : Nice n b (.tuple ds)) (hn : n ≤ 60 := by decide) (hb : b ≤ 1048576 := by decide) : ∃ x, reprF [.list ds] = some (.o (.str x)) ∧ PyData.strOk x = true := by
 have h1 := h.lay
 have h2 := h.sh
 have h3 := h.dep
 have h4 := h.sho
 have h5 := h.bul
 have : (2 : Nat) ^ 20 = 1048576 := by decide
 exact repr_ok (by simpa [PyData.canLay0] using h1) (by simpa [PyData.showable] using h2) (by simp [PyData.depth] at h3 ⊢; omega) (by simpa [PyData.leavesShort] using h4) (by simp [PyData.bulk] at h5 ⊢; omega)
end L3
namespace L3
open PySem PySem.Spec
open PyProof.Rows hiding St
open L2 L6
section
variable {K : PySem.W.Frag} {O : Ob}
def KsAre (K : PySem.W.Frag) (H : Hp) (ks : List V) (ps : List (Int × Str)) : Prop := ps.length = ks.length ∧ ∀ (i : Nat) v p, ks[i]? = some v → ps[i]? = some p → ∃ a, v = .ref a ∧ SqT K H a [.int p.1, .str p.2]
theorem KsAre.stay {H H' : Hp} {ks : List V} {ps : List (Int × Str)} (t : TupStay H H') (h : KsAre K H ks ps) : KsAre K H' ks ps := ⟨h.1, fun i v p e1 e2 => let ⟨a, e, q⟩ := h.2 i v p e1 e2; ⟨a, e, SqT.stay t q⟩⟩
theorem KsAre.snoc {H : Hp} {ks : List V} {ps : List (Int × Str)} {a : Addr} {p : Int × Str} (h : KsAre K H ks ps) (q : SqT K H a [.int p.1, .str p.2]) : KsAre K H (ks ++ [.ref a]) (ps ++ [p]) := by
 refine ⟨by rw [List.length_append, List.length_append, h.1]; rfl, fun i v p' e1 e2 => ?_⟩
 by_cases hi : i < ks.length
 · rw [List.getElem?_append_left hi] at e1
   rw [List.getElem?_append_left (by rw [h.1]; exact hi)] at e2
   exact h.2 i v p' e1 e2
 · rw [List.getElem?_append_right (Nat.le_of_not_lt hi)] at e1
   rw [List.getElem?_append_right (by rw [h.1]; exact Nat.le_of_not_lt hi), h.1] at e2
   cases hk : i - ks.length with
   | zero =>
     rw [hk] at e1 e2
     cases e1
     cases e2
     exact ⟨a, rfl, q⟩
   | succ j =>
     rw [hk] at e1
     cases e1
theorem pair_is {F : Addr → Prop} {H : Hp} {v : V} {i : Int} {x : Str} (h : Is K F H v (.tuple [.int i, .str x])) : ∃ a, v = .ref a ∧ SqT K H a [.int i, .str x] := by
 cases h with
 | tuple q r =>
   cases r with
   | cons r1 r2 =>
     cases r2 with
     | cons r2 r3 =>
       cases r3
       cases r1
       cases r2
       exact ⟨_, rfl, q⟩
theorem key_go {φ : Ob → Prop} {F : List PyData → (R → Prop) → Prop} {kf : PyData → Int × Str} {Z : List V → Hp → Prop} (ok : O.Ok) (hφ : φ O) :
   ∀ (ds : List PyData) (xs : List V) (done : List (Int × Str)) (ks : List V) (H : Hp), O.P H → IsAll K (unM O) H xs ds → KsAre K H ks done → (∀ d ∈ ds, F [d] fun r => r.d = .tuple [.int (kf d).1, .str (kf d).2]) →
     (∀ ks' H', Stp O H H' → KsAre K H' ks' (done ++ ds.map kf) → Z ks' H') → keyGo (spO K φ 1 F) Z xs ks H
 | [], [], done, ks, H, p, .nil, hk, _, k => k ks H (.refl _ _) (by simpa using hk)
 | d :: ds, x :: xs, done, ks, H, p, .cons ix is, hk, hF, k => by
   refine ⟨O, [d], _, ok, hφ, p, rfl, .cons ix .nil, hF d (by simp), fun r hr v H' st o => ?_⟩
   have iv := o.is ok p
   rw [hr] at iv
   obtain ⟨a, rfl, q⟩ := pair_is iv
   refine key_go ok hφ ds xs (done ++ [kf d]) (ks ++ [.ref a]) H' (st.p p) (is.stp st (fun _ f => f) (fun _ f => f)) ((hk.stay st.t).snoc q) (fun e he => hF e (List.mem_cons_of_mem _ he)) fun ks' H2 st2 hk2 => k ks' H2 (st.trans st2) ?_
   rw [List.append_assoc] at hk2
   exact hk2
def kfl (kf : PyData → Int × Str) (d : PyData) : Int × List Nat := ((kf d).1, (kf d).2.cps.toList)
def sortBy (kf : PyData → Int × Str) (ds : List PyData) : List PyData := ds.mergeSort fun p q => !plt (kfl kf q) (kfl kf p)
theorem pick_isAll {H : Hp} {F : Addr → Prop} {xs : List V} {ds : List PyData} (h : IsAll K F H xs ds) {ix : Nat → Nat} {n : Nat} (hx : ∀ i, i < n → ix i < ds.length) : IsAll K F H ((List.range n).map fun i => xs.getD (ix i) .non) ((List.range n).map fun i => ds.getD (ix i) .none) := by
 have go : ∀ l : List Nat, (∀ i ∈ l, ix i < ds.length) → IsAll K F H (l.map fun i => xs.getD (ix i) .non) (l.map fun i => ds.getD (ix i) .none) := by
   intro l
   induction l with
   | nil => intro _; exact .nil
   | cons i l ih =>
     intro hl
     refine .cons ?_ (ih fun j hj => hl j (List.mem_cons_of_mem _ hj))
     have hi := hl i (by simp)
     obtain ⟨v, hv, iv⟩ := h.get (i := ix i) (d := ds[ix i]) (List.getElem?_eq_getElem hi)
     show Is K F H (xs.getD (ix i) .non) (ds.getD (ix i) .none)
     rw [List.getD_eq_getElem?_getD, List.getD_eq_getElem?_getD, hv, List.getElem?_eq_getElem hi]
     exact iv
 exact go _ fun i hi => hx i (List.mem_range.mp hi)
end
end L3
namespace L3
open PySem PySem.Spec
open PyProof.Rows hiding St
open L2 L6
section
variable {K : PySem.W.Frag} {O : Ob}
theorem sort_pick {kf : PyData → Int × Str} {ds : List PyData} {n : Nat} (hn : n = ds.length) {ix : Nat → Nat} (od : Ord plt (fun i => (((ds.map kf).getD i (0, Str.empty)).1, ((ds.map kf).getD i (0, Str.empty)).2.cps.toList)) n ix) :
   ((List.range n).map fun i => ds.getD (ix i) .none) = sortBy kf ds := by
 have hb : ∀ i, i < n → ix i < ds.length := fun i hi => by rw [← hn]; exact od.bj.lt i hi
 have up : Up plt (fun i => kfl kf (ds.getD i .none)) ix n := by
   intro i j hij hj
   have := od.up i j hij hj
   have h1 := hb i (by omega)
   have h2 := hb j hj
   have key : ∀ m, m < ds.length → kfl kf (ds.getD m .none) = (((ds.map kf).getD m (0, Str.empty)).1, ((ds.map kf).getD m (0, Str.empty)).2.cps.toList) := fun m hm => by
     simp [kfl, List.getD_eq_getElem?_getD, hm]
   unfold Rk at this ⊢
   dsimp only at this ⊢
   rw [key _ h1, key _ h2]
   exact this
 have := stable_out (key := kfl kf) (g := fun i => ds.getD i .none) wo_plt up od.bj
 rw [this]
 unfold sortBy
 congr 1
 rw [hn]
 refine List.ext_getElem? fun i => ?_
 by_cases hi : i < ds.length
 · simp [hi]
 · rw [List.getElem?_eq_none (by simp; omega), List.getElem?_eq_none (by omega)]
end
end L3
namespace L3
open PySem PySem.Spec
open PyProof.Rows hiding St
open L2 L6
theorem comp_filG {α : Type} {enc : α → PyData} {g : DG} {h : Nat} {ft : DT} {fe : DE} {ρ : DSt} {Q : List PyData → Prop} {as : List α} {p : α → Bool} {e : α → PyData}
   (step : ∀ a ∈ as, ∀ (Pn : Prop) (Py : R → Prop), (p a = false → Pn) → (p a = true → ∀ r, r.d = e a → Py r) → g (enc a) (List.replicate h none ++ ρ) fun ρ2 => ft ρ2 fun t => if t = true then fe ρ2 Py else Pn)
   (hz : as.length ≤ sizeLine) (q : Q ((as.filter p).map e)) : compGo h g ft fe ρ Q (as.map enc) [] := by
 have key : ∀ (l : List α) (acc : List PyData), (∀ a ∈ l, a ∈ as) → acc.length + l.length ≤ sizeLine → Q (acc ++ (l.filter p).map e) → compGo h g ft fe ρ Q (l.map enc) acc := by
   intro l
   induction l with
   | nil => intro acc _ _ q; show Q acc; simpa using q
   | cons a l ih =>
     intro acc hs hz q
     rw [List.length_cons] at hz
     refine step a (hs a List.mem_cons_self) (compGo h g ft fe ρ Q (l.map enc) acc) (fun r => acc.length < sizeLine ∧ compGo h g ft fe ρ Q (l.map enc) (acc ++ [r.d])) (fun hp => ?_) (fun hp r hr => ⟨by omega, ?_⟩)
     · refine ih acc (fun b hb => hs b (List.mem_cons_of_mem _ hb)) (by omega) ?_
       rw [List.filter_cons, hp] at q
       exact q
     · refine ih _ (fun b hb => hs b (List.mem_cons_of_mem _ hb)) (by rw [List.length_append, List.length_singleton]; omega) ?_
       rw [List.filter_cons, hp, if_pos rfl, List.map_cons] at q
       rw [hr, List.append_assoc]
       exact q
 exact key as [] (fun _ h => h) (by simpa using hz) (by simpa using q)
def sortW (ws : List (List Nat)) : List (List Nat) := ws.mergeSort fun a b => !wlt b a
theorem mergeSort_map {α β : Type} {r : α → α → Bool} {s : β → β → Bool} {f : α → β} {l : List α} (hr : ∀ a ∈ l, ∀ b ∈ l, r a b = s (f a) (f b)) : (l.mergeSort r).map f = (l.map f).mergeSort s := List.map_mergeSort hr
theorem sortBy_words {kf : PyData → Int × Str} {ws : List (List Nat)} (hk : ∀ w ∈ ws, kf (tS w) = (((w.length : Nat) : Int), tx w)) : sortBy kf (ws.map tS) = (sortW ws).map tS := by
 unfold sortBy sortW
 refine (mergeSort_map fun a ha b hb => ?_).symm
 have h1 : kfl kf (tS a) = (((a.length : Nat) : Int), a) := by unfold kfl; rw [hk a ha]; show (_, (tx a).cps.toList) = _; rw [tx_toList]
 have h2 : kfl kf (tS b) = (((b.length : Nat) : Int), b) := by unfold kfl; rw [hk b hb]; show (_, (tx b).cps.toList) = _; rw [tx_toList]
 rw [h1, h2, plt_wlt]
def wkey : PyData → Int × Str
 | .str x => ((x.length : Nat), x)
 | _ => (0, Str.empty)
theorem wkey_tS (w : List Nat) : wkey (tS w) = (((w.length : Nat) : Int), tx w) := by
 show ((((tx w).length : Nat) : Int), tx w) = _
 rw [tx_len]
theorem sortBy_wkey (ws : List (List Nat)) : sortBy wkey (ws.map tS) = (sortW ws).map tS := sortBy_words fun w _ => wkey_tS w
theorem sortW_mem {ws : List (List Nat)} {w : List Nat} : w ∈ sortW ws ↔ w ∈ ws := List.mem_mergeSort
theorem sortW_len {ws : List (List Nat)} : (sortW ws).length = ws.length := List.length_mergeSort ws
theorem sortW_up (ws : List (List Nat)) : (sortW ws).Pairwise fun a b => wlt b a = false := by
 have := List.pairwise_mergeSort (le := fun a b => !wlt b a) (fun a b c h1 h2 => ?_) (fun a b => ?_) ws
 · exact this.imp fun h => by simpa using h
 · have h1 : wlt b a = false := by simpa using h1
   have h2 : wlt c b = false := by simpa using h2
   show (!wlt c a) = true
   cases h : wlt c a with
   | false => rfl
   | true =>
     rcases wlt_neg c b a h with z | z
     · rw [z] at h2; cases h2
     · rw [z] at h1; cases h1
 · show (!wlt b a || !wlt a b) = true
   cases h1 : wlt b a <;> cases h2 : wlt a b <;> try rfl
   have := wlt_tr _ _ _ h1 h2
   rw [wlt_irr] at this
   cases this
theorem cut_mem {α : Type} {xs : List α} {lo hi : Option Int} {c : α} (h : c ∈ cutL xs lo hi) : c ∈ xs := by
 unfold cutL at h
 exact List.mem_of_mem_drop (List.mem_of_mem_take h)
theorem cut_len {α : Type} (xs : List α) (lo hi : Option Int) : (cutL xs lo hi).length ≤ xs.length := by
 unfold cutL
 rw [List.length_take, List.length_drop]
 omega
theorem sml_low {w : List Nat} (h : LowW w) (hl : w.length ≤ 100) : Sml w := ⟨hl, fun c hc => by have := h c hc; unfold isLow at this; omega⟩
end L3
namespace L3
open PySem PySem.Spec
open PyProof.Rows hiding St
open L2 L6
def wordOrderF : List PyData → (R → Prop) → Prop := fun ds Q => ∃ w : List Nat, ds = [tS w] ∧ w.length ≤ 100 ∧ ∀ r : R, r.d = .tuple [.int (w.length : Nat), tS w] → Q r
theorem nice_tS {w : List Nat} (h : Sml w) : Nice 0 100 (tS w) := nice_txt (fun c hc => Nat.lt_trans (h.2 c hc) (by decide)) h.1
def SubW (ls w : List Nat) : Prop := ∀ c ∈ w, c ∈ ls
theorem SubW.low {ls w : List Nat} (h : SubW ls w) (hl : LowW ls) : LowW w := low_sub hl h
def wordSF : List PyData → (R → Prop) → Prop := fun ds Q => ∃ (ls : List Nat) (n : Nat), ds = [.str (tx ls), .int n] ∧ LowW ls ∧ ls ≠ [] ∧ ls.length ≤ 26 ∧ n ≤ 50 ∧ ∀ w : List Nat, SubW ls w → w.length ≤ n → Q (.o (.str (tx w)))
end L3
namespace L3
open PySem PySem.Spec
open PyProof.Rows hiding St
open L2 L6
theorem getD_tx (w : List Nat) (v : Nat) : (tx w).cps.getD v 0 = w.getD v 0 := by
 simp [tx, Array.getD, List.getD]
 split
 · rename_i h
   rw [List.getElem?_eq_getElem h]; rfl
 · rename_i h
   rw [List.getElem?_eq_none (by omega)]; rfl
theorem from_nat (n s : Nat) (h : s ≤ n) : fromIndex n (s : Int) = s := by
 unfold fromIndex
 first | omega | (simp; omega) | (split <;> omega)
def findV (c : Nat) (more : List Nat) (start : Nat) : Int := match findFrom c more start with | none => -1 | some p => (p : Int)
theorem find_tx {more : List Nat} {c start : Nat} (h : start ≤ more.length) : Txt.find3 (tx more) (sg c) (start : Int) = findV c more start := by
 unfold findV
 have hl : (tx more).length = more.length := tx_len more
 rcases StrLaws.find3_spec (tx more) c (start : Int) with ⟨h1, h2⟩ | ⟨k, h1, h2, h3, h4, h5⟩
 · rw [show sg c = ⟨#[c]⟩ from rfl, h1]
   cases hf : findFrom c more start with
   | none => rfl
   | some p =>
     obtain ⟨a, b, _⟩ := find_some hf
     obtain ⟨b1, b2⟩ := List.getElem?_eq_some_iff.mp b
     have := h2 p (by rw [hl, from_nat _ _ h]; exact a) (by rw [hl]; exact b1)
     rw [getD_tx, List.getD, b] at this
     exact absurd rfl this
 · rw [show sg c = ⟨#[c]⟩ from rfl, h1]
   rw [hl, from_nat _ _ h] at h2 h5
   rw [hl] at h3
   have hk : more[k]? = some c := by
     rw [getD_tx, List.getD, List.getElem?_eq_getElem h3] at h4
     rw [List.getElem?_eq_getElem h3]
     exact congrArg some h4
   cases hf : findFrom c more start with
   | none => exact absurd hk (find_none hf k h2)
   | some p =>
     obtain ⟨a, b, d⟩ := find_some hf
     have e : k = p := by
       rcases Nat.lt_trichotomy k p with z | z | z
       · exact absurd hk (d k h2 z)
       · exact z
       · have := h5 p a z
         rw [getD_tx, List.getD, b] at this
         exact absurd rfl this
     rw [e]
def placesF : List PyData → (R → Prop) → Prop := fun ds Q => ∃ less more : List Nat, ds = [tS less, tS more] ∧ Sml less ∧ Sml more ∧ ((plc less more 0 [] = none → Q (.o .none)) ∧ ∀ ps : List Nat, plc less more 0 [] = some ps → Q (.n (ps.map fun p => .int (p : Nat))))
def liesUnderF : List PyData → (R → Prop) → Prop := fun ds Q => ∃ less more : List Nat, ds = [tS less, tS more] ∧ Sml less ∧ Sml more ∧ Q (.o (.bool (under less more)))
abbrev underLF := liesUnderF
end L3
namespace L3
open PySem PySem.Spec
open PyProof.Rows hiding St
open L2 L6
theorem len_lst {ds : List PyData} (h : ds.length ≤ 16777216) : lenF [.list ds] = some (.o (.int (ds.length : Nat))) := rfl
end L3
namespace L6
open PySem PySem.Spec
open PyProof.Rows hiding St
open L2 L3
section
variable {X : Cx}
theorem sortK_core {k : Nat} {f : Addr} {fd : FuncData} {y : Str} {sp : Sp} {xs : List V} {vs : List Value} {Q : VK} {pins : List (Addr × Obj)} {σ : St} {H1 : Hp} {s1 : Shared} {E : Value → Shared → Prop} (F : FnOk X.prog X.w X.K X.mg X.base CX0 k f fd [y] sp) (hr : Room (k + 1) X.A) (hb : Binds X.K fd [y] [])
   (I1 : Inv X pins σ H1 s1) (rv : Vals xs vs) (h64 : xs.length < 64)
   (go : keyGo sp (fun ks H2 => ∃ (α : Type) (blt : α → α → Bool) (k : Nat → α), KeysV X.K H2 ks α blt k ∧ ∀ ix l, Ord blt k xs.length ix → H2 l = none → Q (.ref l) (upd H2 l (.lst (pickL .non xs ix)))) xs [] H1)
   {R : PySem.Fin → Shared → Prop} (hR : ∀ v s', (∃ u H', Inv X pins σ H' s' ∧ RelV u v ∧ Q u H') → R (.done (.ret v)) s') :
   wpAny (model X.prog X.w) X.A.in1 (do let l ← newList vs; let _ ← holding [l] (call (.builtin "list.sort") [l] [(Str.ofString "key", .ref f)]); ret l) R E s1 := by
 have hlv : xs.length = vs.length := rv.length
 have hz : xs.length ≤ sizeLine := by rw [sizeLine_eq]; omega
 have hv64 : vs.length < 64 := by omega
 refine wpAny_bind (wpAny_newList ?_)
 obtain ⟨h0, eh0⟩ : ∃ h0, h0 = s1.heap := ⟨_, rfl⟩
 have sz0 : h0.objs.size = s1.heap.objs.size := by rw [eh0]
 have k0 : ∀ b u, s1.heap.get? b = some u → h0.get? b = some u := fun b u e => by rw [eh0]; exact e
 rw [← eh0]
 have hoL : (h0.push (seqObj "list" vs.toArray 0)).get? h0.objs.size = some (seqObj "list" vs.toArray 0) := Heap.get?_push_size _ rfl
 show wpAny (model X.prog X.w) X.A.in1 _ _ _ { s1 with heap := h0.push (seqObj "list" vs.toArray 0) }
 refine wpAny_bind (wpAny_holding (wpAny_call_entry_kw slot_list_sort ⟨_, hoL, rfl⟩ entry_list_sort ?_ (PyProof.Rows.ksk_l1 _ _)))
 rw [PyProof.Rows.ksk_t1]
 unfold PyProof.Rows.ksk_tree
 refine wpAny_bind (listItems_at hoL rfl ?_)
 refine wpAny_bind (listUpdate_at hoL rfl ?_ (by rw [sizeLine_eq]; simp; omega))
 obtain ⟨ea, ho1⟩ : ∃ ea, ((h0.push (seqObj "list" vs.toArray 0)).update h0.objs.size (Obj.mapSeq fun _ => #[])).get? h0.objs.size = some (seqObj "list" #[] ea) := ⟨_, get?_update_seq hoL (fun _ => #[])⟩
 refine wpAny_bind (seqEpoch_at ho1 rfl ?_)
 refine wpAny_bind (wpAny_newTuple ?_)
 refine wpAny_bind (wpAny_newList ?_)
 refine wpAny_holding ?_
 generalize eh2 : (h0.push (seqObj "list" vs.toArray 0)).update h0.objs.size (Obj.mapSeq fun _ => #[]) = h2 at ho1
 have sz2 : h2.objs.size = h0.objs.size + 1 := by rw [← eh2, Heap.size_update, size_push']
 have k2 : ∀ b u, s1.heap.get? b = some u → h2.get? b = some u := fun b u e => by
   have := k0 b u e
   rw [← eh2, Heap.get?_update_ne _ _ _ _ (Nat.ne_of_lt (Heap.lt_size this))]
   exact Heap.get?_push_of_some _ this
 -- the list that is sorted, the keys' list
 generalize eq2 : h0.objs.size = q2 at ho1 hoL sz2 sz0
 generalize eh3 : h2.push (seqObj "tuple" vs.toArray 0) = h3
 have sz3 : h3.objs.size = q2 + 2 := by rw [← eh3, size_push', sz2]
 have k3 : ∀ b u, h2.get? b = some u → (h3.push (seqObj "list" #[] 0)).get? b = some u := fun b u e => by
   refine Heap.get?_push_of_some _ ?_
   rw [← eh3]
   exact Heap.get?_push_of_some _ e
 show wpAny (model X.prog X.w) X.A.in1.in1 (PyProof.Rows.ksk_rest q2 (.ref f) false vs.toArray ea (.ref h3.objs.size)) _ _ { s1 with heap := h3.push (seqObj "list" #[] 0) }
 have fq : FpOk X pins H1 q2 := I1.fpOk (by omega) (I1.hok.fresh (by omega))
 have fk : FpOk X pins H1 h3.objs.size := I1.fpOk (by omega) (I1.hok.fresh (by omega))
 have hne : h3.objs.size ≠ q2 := by omega
 have I2 : Inv X pins σ H1 { s1 with heap := h3.push (seqObj "list" #[] 0) } := I1.kept (t' := s1.toks) fun b u e => k3 b u (k2 b u e)
 have oq := k3 _ _ ho1
 have ok : (h3.push (seqObj "list" #[] 0)).get? h3.objs.size = some (seqObj "list" #[] 0) := Heap.get?_push_size _ rfl
 generalize h3.push (seqObj "list" #[] 0) = h4 at I2 oq ok ⊢
 generalize h3.objs.size = kS at fk hne ok ⊢
 refine rest_key (fun i ks s' => ∃ (H' : Hp) (kvs : List V) (e : Nat), Inv X pins σ H' s' ∧ H' q2 = none ∧ H' kS = none ∧ s'.heap.get? q2 = some (seqObj "list" #[] ea) ∧ s'.heap.get? kS = some (seqObj "list" ks.toArray e) ∧ Vals kvs ks ∧
   keyGo sp (fun ks H2 => ∃ (α : Type) (blt : α → α → Bool) (k : Nat → α), KeysV X.K H2 ks α blt k ∧ ∀ ix l, Ord blt k xs.length ix → H2 l = none → Q (.ref l) (upd H2 l (.lst (pickL .non xs ix)))) (xs.drop i) kvs H') hv64
   ⟨H1, [], 0, I2, fq.1, fk.1, oq, ok, .nil, go⟩ (fun i x ks s' hx hk ⟨H', kvs, e, I', n1, n2, o1, o2, rk, g⟩ => ?_) fun ks s' hl ⟨H', kvs, e, I', n1, n2, o1, o2, rk, g⟩ => ?_
 · have hi : i < vs.length := (List.getElem?_eq_some_iff.mp hx).1
   have hi' : i < xs.length := by omega
   obtain ⟨u, hu, ru⟩ := Vals.get rv (List.getElem?_eq_getElem hi')
   rw [hx] at hu
   cases hu
   rw [List.drop_eq_getElem_cons hi'] at g
   have I3 : Inv X (pins ++ [(q2, seqObj "list" #[] ea), (kS, seqObj "list" ks.toArray e)]) σ H' s' := I'.pins_of fun p hp => by
     rcases List.mem_append.mp hp with hp | hp
     · exact I'.pin p (List.mem_append_right _ hp)
     · rcases List.mem_cons.mp hp with rfl | hp
       · exact ⟨o1, n1, fq.2.1, fq.2.2.1, fun v z => by cases z⟩
       · rw [List.mem_singleton.mp hp]
         exact ⟨o2, n2, fk.2.1, fk.2.2.1, fun v z => by cases z⟩
   refine wpAny_mono (run_fn2 F hr hb I3 (.cons ru .nil) g) (fun kv s2 ⟨v, H'', I4, r4, g4⟩ => ?_) fun _ _ z => z
   have p1 := I4.pin (q2, seqObj "list" #[] ea) (by simp)
   have p2 := I4.pin (kS, seqObj "list" ks.toArray e) (by simp)
   have I5 : Inv X pins σ H'' s2 := I4.pins_of fun p hp => I4.pin p (by simp [hp])
   obtain ⟨e', eu⟩ : ∃ e', (s2.heap.update kS (Obj.mapSeq (·.push kv))).get? kS = some (seqObj "list" (ks ++ [kv]).toArray e') := by
     have z := get?_update_seq p2.1 (fun xs => xs.push kv)
     have z2 : ks.toArray.push kv = (ks ++ [kv]).toArray := by simp
     exact ⟨_, z.trans (congrArg (fun a => some (seqObj "list" a _)) z2)⟩
   refine ⟨⟨e, p2.1⟩, H'', kvs ++ [v], e', I5.turned (it := kS) (t' := s2.toks) (fun b o hb z => by rw [Heap.get?_update_ne _ _ _ _ hb]; exact z) p2.2.1 fk.2.1 fk.2.2.2.1 fk.2.2.2.2.1 fk.2.2.2.2.2, p1.2.1, p2.2.1, ?_, eu, Vals.append rk (.cons r4 .nil), g4⟩
   show (s2.heap.update kS _).get? q2 = _
   rw [Heap.get?_update_ne _ _ _ _ (Ne.symm hne)]
   exact p1.1
 · rw [← hlv, List.drop_eq_nil_of_le (Nat.le_refl _)] at g
   obtain ⟨α, blt, k, kv, q⟩ := g
   refine ⟨α, blt, k, e, o2, o1, hne, keysV_ok I' kv rk hl, fun ix o => ⟨_, rfl, wpAny_pure (hR _ _ ?_)⟩⟩
   have IA := I'.turned (it := kS) (t' := s'.toks) (h' := s'.heap.update kS (Obj.mapSeq fun _ => #[])) (fun b o hb z => by rw [Heap.get?_update_ne _ _ _ _ hb]; exact z) n2 fk.2.1 fk.2.2.2.1 fk.2.2.2.2.1 fk.2.2.2.2.2
   have oA : (s'.heap.update kS (Obj.mapSeq fun _ => #[])).get? q2 = some (seqObj "list" #[] ea) := by
     rw [Heap.get?_update_ne _ _ _ _ (Ne.symm hne)]
     exact o1
   refine ⟨.ref q2, upd H' q2 (.lst (pickL .non xs ix)), IA.adopt (t' := s'.toks) ⟨n1, fq.2⟩ (fun b u hb z => by rw [Heap.get?_update_ne _ _ _ _ hb]; exact z) ?_, rfl, q ix q2 (by rw [hlv]; exact o) n1⟩
   refine ⟨by unfold pickL; rw [List.length_map, List.length_range]; exact hz, pickV vs ix, _, Vals.pick rv o.bj, get?_update_seq oA _⟩
end
end L6
namespace LI
open PySem PySem.Spec
theorem upd_same_seq {h : Heap} {l : Addr} {xs : Array Value} {n : Nat} (e : h.get? l = some { cls := .type "list", dict := none, data := .seq xs n, slots := #[] }) (f g : Array Value → Array Value) (eq : f xs = g xs) : h.update l (Obj.mapSeq f) = h.update l (Obj.mapSeq g) := by
 have h1 := ((Heap.get?_eq_some h l _).mp e).1
 obtain ⟨objs, life⟩ := h
 have hm : objs.modify l (Obj.mapSeq f) = objs.modify l (Obj.mapSeq g) := by
   refine Array.ext_getElem? fun i => ?_
   rw [Array.getElem?_modify, Array.getElem?_modify]
   split
   · rename_i c
     subst c
     have h1 : objs[l]? = _ := h1
     rw [h1]
     show some (Obj.mapSeq f _) = some (Obj.mapSeq g _)
     unfold Obj.mapSeq
     dsimp only
     rw [eq]
   · rfl
 show Heap.mk (objs.modify l (Obj.mapSeq f)) life = Heap.mk (objs.modify l (Obj.mapSeq g)) life
 rw [hm]
theorem call_insert {prog : Program} {w : World} {A : Around} {E : Value → Shared → Prop} {s : Shared} {l : Addr} {its : List Value} {n i : Nat} {t : Tok} {u : Value} {Q : Value → Shared → Prop} (e : s.heap.get? l = some { cls := .type "list", dict := none, data := .seq its.toArray n, slots := #[] }) (hi : i ≤ its.length) (hz : its.length < sizeLine)
   (h : Q .none { s with heap := s.heap.update l (Obj.mapSeq fun _ => (its.take i ++ u :: its.drop i).toArray) }) : wpAny (model prog w) A (call (.builtin "list.insert") [.ref l, .int (i : Int) t, u]) Q E s := by
 have sz := sizeLine_eq
 obtain ⟨x, hx⟩ : ∃ x : Int, x = (i : Int) := ⟨_, rfl⟩
 have hfit : ¬ (!Builtin.List.listFitsIndex x) = true := by
   have h1 : (-(2 ^ 63 : Int) ≤ x) := by omega
   have h2 : x < 2 ^ 63 := by omega
   unfold Builtin.List.listFitsIndex
   rw [decide_eq_true h1, decide_eq_true h2]
   decide
 rw [← hx]
 refine call_meets F.slot_list_insert ⟨_, e, rfl⟩ F.entry_list_insert (F.args_list_insert_3 _ _ _) (PySem.AutoSeq1.list_insert_list_int_val_1 l its.toArray n x t u hfit (by rw [List.size_toArray]; omega)) ⟨e, ?_⟩
 have eq := upd_same_seq e (fun xs => have k := if x < 0 then (x + (xs.size : Int)).toNat else min x.toNat xs.size; (xs.extract 0 k).push u ++ xs.extract k) (fun _ => (its.take i ++ u :: its.drop i).toArray) (by
   have e1 : ¬ (x < 0) := by omega
   have e2 : min x.toNat its.toArray.size = i := by simp; omega
   simp only [e1, if_false, e2]
   apply Array.toList_inj.mp
   simp [List.take_of_length_le])
 show Q .none _
 rw [eq]
 exact h
end LI
namespace L3
open PySem PySem.Spec
open PyProof.Rows hiding St
open L2 L6
def rInsert : V → List V → Hp → VK → Prop := fun x vs H Q => ∃ (l : Addr) (xs : List V) (i : Nat) (y : V), x = .ref l ∧ vs = [.int (i : Nat), y] ∧ H l = some (.lst xs) ∧ xs.length < sizeLine ∧ i ≤ xs.length ∧ Q .non (upd H l (.lst (xs.take i ++ y :: xs.drop i)))
theorem mt_insert {X : Cx} : MtR X "list.insert" rInsert := by
 intro pins s σ H x vs v us Q I rx rv h
 obtain ⟨l, xs, i, y, rfl, rfl, hH, hz, hi, q⟩ := h
 cases rx
 cases rv with
 | cons r1 rv =>
   obtain ⟨t, rfl⟩ := r1
   obtain ⟨u, rfl, ru⟩ := Vals.one rv
   obtain ⟨z, its, n, r, hl, e⟩ := I.lstM hH
   have sz := sizeLine_eq
   refine LI.call_insert e (by omega) (by omega) ?_
   refine ⟨.non, _, I.lset (its' := its.take i ++ u :: its.drop i) hH e rfl ((r.take i).append (.cons ru (r.drop i))) ?_, rfl, q⟩
   · rw [List.length_append, List.length_cons, List.length_take, List.length_drop]
     omega
section
variable {K : PySem.W.Frag} {O : Ob}
def insS (i : Nat) (fi fv : DE) : DS := fun Dd ρ => ∃ ds, ρ[i]? = some (some (.own ds)) ∧ fi ρ fun r0 => fv ρ fun r => ∃ k : Nat, r0.d = .int (k : Nat) ∧ k ≤ ds.length ∧ flat r.d = true ∧ ds.length < sizeLine ∧ Dd.nx (ρ.set i (some (.own (ds.take k ++ r.d :: ds.drop k))))
theorem sd_insert {i : Nat} {t0 t : TE} {f0 f : DE} (h0 : ED K O t0 f0) (h : ED K O t f) : SD K O (tDrop (tBM K "list" rInsert (tVar i) (tCons t0 (tCons t tNil)))) (insS i f0 f) := fun H₀ A σ H ρ D Dd r q P => by
 obtain ⟨ds, e, q⟩ := q
 obtain ⟨v, hv, a, xs, rfl, ha, hl, hs⟩ := r.at_ i _ e
 refine ⟨_, hv, ?_⟩
 refine ⟨.inl ⟨rfl, xs, .of hl⟩, ?_⟩
 refine h0 σ H ρ _ _ r.seen q fun w0 H1 x0 s1 o1 q1 => ?_
 have r1 := r.stp s1
 refine h σ H1 ρ _ _ r1.seen q1 fun w H2 x s2 o2 ⟨k, ek, hk, fl, hz, q2⟩ => ?_
 have r2 := r1.stp s2
 have i0 := o1.is r.ok r.p
 rw [ek] at i0
 cases i0
 obtain ⟨v2, hv2, a2, xs2, e2, ha2, hl2, hs2⟩ := r2.at_ i _ e
 rw [hv] at hv2
 cases hv2
 cases e2
 refine ⟨a, xs2, k, w, rfl, rfl, hl2, by rw [hs2.length]; exact hz, by rw [hs2.length]; exact hk, ?_⟩
 have iw : Is K (unO O A) H2 w x.d := Is.flat (TupStay.refl H2) (o2.is r.ok r1.p) fl
 exact P.nx A σ _ _ (r2.change e hv ha ((hs2.take k).append (.cons iw (hs2.drop k)))) ((Frm.stp (s1.trans s2)).trans (.change ha)) q2
end
section
variable {ι κ : Type} {P : Program} {w : World} {K : PySem.W.Frag} {mg : Str → Option Value} {base : Heap} {k : Nat} {X : ι → Cx} {O : κ → Ob} {a b : Expr} {fa fb : DE} {pos p : Pos}
theorem s_ins (n : Nat) {x : Str} {px apos cpos : Pos} (C : Ctx3 P w K mg base k X) (ha : E3 K X O a fa) (hb : E3 K X O b fb) (hN : ∀ i, (X i).N[n]? = some x := by intro i; rfl) (hv : ∀ i, Vis (X i).env.scope x := by intro i; first | exact Or.inl rfl | exact Or.inr (Or.inl rfl) | exact Or.inr (Or.inr rfl)) (hd : (x == ("__debug__" : Str)) = false := by decide) (hcd : (x == ("__classdict__" : Str)) = false := by decide)
   (hbase : ∀ i, attributeBase (.Name x px) "insert" (X i).env (eval (.Name x px) (X i).env) = eval (.Name x px) (X i).env := by intro i; rfl)
   (hfew : ∀ i, ((backTo cpos (starEach [a, b] (X i).env)).all (fun x => !x.1) && (backToKw cpos (keywordEach [] (X i).env)).all (fun x => x.1.isSome) && decide (([a, b] : List Expr).length + ([] : List Keyword).length + (if ([] : List Keyword).isEmpty then 0 else 1) < 30)) = true := by intro i; rfl)
   (hline : (apos.endLine == cpos.line) = true := by rfl) (hs : ∀ i, starEach [a, b] (X i).env = (false, eval a (X i).env) :: starEach [b] (X i).env := by intro i; rfl) (hs2 : ∀ i, starEach [b] (X i).env = (false, eval b (X i).env) :: starEach [] (X i).env := by intro i; rfl) (hpl : ∀ i, (backTo cpos (starEach [b] (X i).env)).any (·.1) = false := by intro i; rfl) (hsw : ∀ i, swapsWith (.Call (.Attribute (.Name x px) "insert" apos) [a, b] [] cpos) none pos.line (X i).env = pure false := by intro i; rfl) :
   S3 K X O (.Expr (.Call (.Attribute (.Name x px) "insert" apos) [a, b] [] cpos) pos) (insS n fa fb) := let ⟨_, p1, d1⟩ := ha; let ⟨_, p2, d2⟩ := hb;
 ⟨tDrop (tBM K "list" rInsert (tVar n) (tCons _ (tCons _ tNil))), fun i => by
   have h := pe_bm (apos := apos) (cpos := cpos) PySem.F.plainAttrs_list PySem.F.slot_list_insert PySem.F.type_list_insert (mt_insert (X := X i)) (pe_var (pos := px) (hN i) (hv i) hd hcd) (pa_cons (p1 i) (pa_cons (p2 i) pa_nil (hs2 i)) (hs i)) (hbase i) (hfew i) hline (hs i) (hpl i)
   rw [C.hK] at h
   exact ps_expr h (hsw i), fun j => sd_insert (d1 j) (d2 j)⟩
def pick2D (fa fb fi : DE) : DE := fun ρ Q => fa ρ fun r0 => fb ρ fun r1 => fi ρ fun ri => (ri.d = .int 0 ∧ Q r0) ∨ (ri.d = .int 1 ∧ Q r1)
theorem ed_pick {O : Ob} {ta tb ti : TE} {fa fb fi : DE} (ha : ED K O ta fa) (hb : ED K O tb fb) (hi : ED K O ti fi) : ED K O (tOp (rIx K) (tLst (tCons ta (tCons tb tNil))) ti) (pick2D fa fb fi) := fun σ H ρ Q Qd S hf k => by
 refine ha σ H ρ _ _ S hf fun v H1 r0 s1 o1 q1 => ?_
 refine hb σ H1 ρ _ _ (S.stp s1) q1 fun u H2 r1 s2 o2 q2 => ?_
 have p1 := s1.p S.p
 have p2 := s2.p p1
 refine ⟨by rw [sizeLine_eq]; simp, fun l hl => ?_⟩
 have s3 : Stp O H2 (upd H2 l (.lst [v, u])) := .new S.ok hl _
 refine hi σ _ ρ _ _ (((S.stp s1).stp s2).stp s3) q2 fun z H4 ri s4 o4 q4 => ?_
 have iz := o4.is S.ok (s3.p p2)
 have m : ¬ O.M l := fun m => by obtain ⟨o, z⟩ := S.ok.here H2 l p2 m; rw [hl] at z; cases z
 have hl4 : H4 l = some (.lst [v, u]) := s4.s l _ upd_same m
 have st := ((s1.trans s2).trans s3).trans s4
 rcases q4 with ⟨e, q⟩ | ⟨e, q⟩
 · rw [e] at iz
   cases iz
   refine .inl ⟨_, _, _, v, rfl, rfl, .of hl4, rfl, k v H4 r0 st ?_ q⟩
   exact Out.stp S.ok S.p s1 ((s2.trans s3).trans s4) o1
 · rw [e] at iz
   cases iz
   refine .inl ⟨_, _, _, u, rfl, rfl, .of hl4, rfl, k u H4 r1 st ?_ q⟩
   exact (Out.stp S.ok p1 s2 (s3.trans s4) o2).ahead S.ok S.p s1
theorem e_pick {c : Expr} {fc : DE} {lp : Pos} (C : Ctx3 P w K mg base k X) (ha : E3 K X O a fa) (hb : E3 K X O b fb) (hc : E3 K X O c fc) (hs : PlainIx c := by intro _ _; rfl) (h1 : ∀ i, starEach [a, b] (X i).env = (false, eval a (X i).env) :: starEach [b] (X i).env := by intro i; rfl) (h2 : ∀ i, starEach [b] (X i).env = (false, eval b (X i).env) :: starEach [] (X i).env := by intro i; rfl) :
   E3 K X O (.Subscript (.List [a, b] lp) c pos) (pick2D fa fb fc) :=
 let ⟨_, p1, d1⟩ := ha; let ⟨_, p2, d2⟩ := hb; let ⟨_, p3, d3⟩ := hc
 ⟨tOp (rIx K) _ _, fun i => by have h := pe_ix (pos := pos) (ix_seq (X := X i)) (pe_lst (pos := lp) (pa_cons (p1 i) (pa_cons (p2 i) pa_nil (h2 i)) (h1 i))) (p3 i) hs; rw [C.hK] at h; exact h, fun j => ed_pick (d1 j) (d2 j) (d3 j)⟩
end
end L3
namespace TB
open PySem PySem.SetTable
def cc : Nat → Nat
 | 0 => 0
 | n + 1 => 5 * cc n + 1
def gg (n x : Nat) : Nat := 5 ^ n * x + cc n
theorem cc_pow : ∀ n, 4 * cc n + 1 = 5 ^ n
 | 0 => rfl
 | n + 1 => by rw [cc, Nat.pow_succ, ← cc_pow n]; omega
theorem cc_add (a b : Nat) : cc (a + b) = 5 ^ a * cc b + cc a := by
 induction a with
 | zero => simp [cc]
 | succ a ih =>
   rw [show a + 1 + b = (a + b) + 1 by omega, cc, ih, cc, Nat.pow_succ, Nat.mul_add, Nat.mul_right_comm]
   omega
theorem gg_add (a b x : Nat) : gg (a + b) x = gg a (gg b x) := by
 unfold gg
 rw [cc_add, Nat.pow_add, Nat.mul_add, Nat.mul_assoc, Nat.add_assoc]
theorem cc_two : ∀ m, ∃ q, cc (2 ^ m) = 2 ^ m * (2 * q + 1)
 | 0 => ⟨0, rfl⟩
 | m + 1 => by
   obtain ⟨q, e⟩ := cc_two m
   have h1 : cc (2 ^ (m + 1)) = cc (2 ^ m) * (4 * cc (2 ^ m) + 2) := by
     rw [show 2 ^ (m + 1) = 2 ^ m + 2 ^ m by rw [Nat.pow_succ]; omega, cc_add, ← cc_pow]
     have : (4 * cc (2 ^ m) + 1) * cc (2 ^ m) = cc (2 ^ m) * (4 * cc (2 ^ m) + 1) := Nat.mul_comm _ _
     rw [this, Nat.mul_add, Nat.mul_add]
     omega
   refine ⟨q + (2 * q + 1) * cc (2 ^ m), ?_⟩
   rw [h1, show 4 * cc (2 ^ m) + 2 = 2 * (2 * cc (2 ^ m) + 1) by omega, ← Nat.mul_assoc]
   generalize hc : cc (2 ^ m) = c at *
   have h2 : 2 * (q + (2 * q + 1) * c) + 1 = (2 * q + 1) * (2 * c + 1) := by
     rw [Nat.mul_add (2 * q + 1), Nat.mul_left_comm (2 * q + 1) 2 c]
     omega
   rw [h2, ← Nat.mul_assoc, Nat.pow_succ, Nat.mul_right_comm (2 ^ m) 2, ← e]
theorem come : ∀ (m x y : Nat), ∃ n, n < 2 ^ m ∧ gg n x % 2 ^ m = y % 2 ^ m
 | 0, x, y => ⟨0, by simp, by simp [Nat.mod_one]⟩
 | m + 1, x, y => by
   obtain ⟨n, hn, e⟩ := come m x y
   have h2 : 2 ^ (m + 1) = 2 * 2 ^ m := by rw [Nat.pow_succ]; omega
   by_cases he : gg n x % 2 ^ (m + 1) = y % 2 ^ (m + 1)
   · exact ⟨n, by omega, he⟩
   · refine ⟨2 ^ m + n, by omega, ?_⟩
     rw [gg_add]
     obtain ⟨q, hq⟩ := cc_two m
     have h3 : gg (2 ^ m) (gg n x) = gg n x + 2 ^ m + 2 ^ (m + 1) * (2 * (2 * q + 1) * gg n x + q) := by
       unfold gg
       rw [← cc_pow, hq, h2]
       generalize 5 ^ n * x + cc n = z
       generalize 2 ^ m = M
       rw [Nat.mul_add 2 (2 * q) 1, Nat.mul_add M (2 * q) 1, Nat.mul_add (2 * M)]
       have a1 : (4 * (M * (2 * q) + M * 1) + 1) * z = 8 * (M * q * z) + 4 * (M * z) + z := by
         rw [Nat.add_mul, Nat.one_mul, Nat.mul_assoc, Nat.add_mul, Nat.mul_one, Nat.mul_add]
         have : M * (2 * q) * z = 2 * (M * q * z) := by rw [Nat.mul_left_comm, Nat.mul_assoc]
         rw [this]
         omega
       have a2 : 2 * M * ((2 * (2 * q) + 2 * 1) * z) = 8 * (M * q * z) + 4 * (M * z) := by
         rw [Nat.add_mul, Nat.mul_add]
         have b1 : 2 * M * (2 * (2 * q) * z) = 8 * (M * q * z) := by
           rw [show 2 * (2 * q) = 4 * q by omega, Nat.mul_assoc 4, Nat.mul_left_comm (2 * M), Nat.mul_assoc 2 M, ← Nat.mul_assoc M q z]
           omega
         have b2 : 2 * M * (2 * 1 * z) = 4 * (M * z) := by
           rw [Nat.mul_one, Nat.mul_left_comm (2 * M), Nat.mul_assoc 2 M]
           omega
         rw [b1, b2]
       have a3 : M * (2 * q) = 2 * (M * q) := Nat.mul_left_comm ..
       have a4 : 2 * M * q = 2 * (M * q) := Nat.mul_assoc ..
       rw [a1, a2, a3, a4]
       omega
     rw [h3, Nat.add_mul_mod_self_left]
     generalize gg n x = z at *
     have hM : 0 < 2 ^ m := Nat.pow_pos (by decide)
     rw [h2] at he ⊢
     generalize 2 ^ m = M at *
     have ez := Nat.mod_mul (x := z) (a := M) (b := 2)
     have ey := Nat.mod_mul (x := y) (a := M) (b := 2)
     have ew := Nat.mod_mul (x := z + M) (a := M) (b := 2)
     rw [Nat.add_mod_right, Nat.add_div_right _ hM] at ew
     rw [Nat.mul_comm 2 M] at he ⊢
     have c1 : z / M % 2 ≠ y / M % 2 := fun c => he (by rw [ez, ey, e, c])
     rw [ew, ey, e]
     have c2 : (z / M).succ % 2 = y / M % 2 := by omega
     rw [c2]
end TB
namespace TB
open PySem PySem.SetTable
def T0 (mask : Nat) : SetTable := { mask, place := #[], dummies := #[], finger := 0, led := false, moves := 0, plain := false }
def sq (mask : Nat) (h : Int) : Nat → Probe
 | 0 => (T0 mask).probeStart h
 | n + 1 => (T0 mask).advance (sq mask h n)
def lp (mask : Nat) (h : Int) : Nat → Nat × Nat
 | 0 => (bits h % (mask + 1), bits h)
 | k + 1 => leap mask (lp mask h k).1 (lp mask h k).2
def rs (mask : Nat) (q : Nat × Nat) : Probe := { j := q.1, more := runEnd mask q.1 - q.1, i := q.1, perturb := q.2, dummy := none }
theorem more_le (mask i : Nat) : runEnd mask i - i ≤ 9 := by
 unfold runEnd
 split <;> omega
theorem sq_in {mask : Nat} {h : Int} {n : Nat} {q : Nat × Nat} (e : sq mask h n = rs mask q) : ∀ d, d ≤ runEnd mask q.1 - q.1 → sq mask h (n + d) = { rs mask q with j := q.1 + d, more := runEnd mask q.1 - q.1 - d }
 | 0, _ => by rw [Nat.add_zero, e]; rfl
 | d + 1, hd => by
   rw [← Nat.add_assoc]
   show (T0 mask).advance (sq mask h (n + d)) = _
   rw [sq_in e d (by omega)]
   unfold SetTable.advance
   rw [if_pos (by show 0 < runEnd mask q.1 - q.1 - d; omega)]
   show ({ rs mask q with j := q.1 + d + 1, more := runEnd mask q.1 - q.1 - d - 1 } : Probe) = _
   rw [show runEnd mask q.1 - q.1 - d - 1 = runEnd mask q.1 - q.1 - (d + 1) by omega]
   rfl
theorem sq_leap {mask : Nat} {h : Int} {n : Nat} {q : Nat × Nat} (e : sq mask h n = rs mask q) : sq mask h (n + (runEnd mask q.1 - q.1) + 1) = rs mask (leap mask q.1 q.2) := by
 show (T0 mask).advance (sq mask h (n + (runEnd mask q.1 - q.1))) = _
 rw [sq_in e _ (Nat.le_refl _)]
 unfold SetTable.advance
 rw [if_neg (by show ¬ 0 < runEnd mask q.1 - q.1 - (runEnd mask q.1 - q.1); omega)]
 rfl
theorem sq_run (mask : Nat) (h : Int) : ∀ k, ∃ n, n ≤ 10 * k ∧ sq mask h n = rs mask (lp mask h k)
 | 0 => ⟨0, Nat.le_refl _, rfl⟩
 | k + 1 => by
   obtain ⟨n, hn, e⟩ := sq_run mask h k
   have := more_le mask (lp mask h k).1
   exact ⟨_, by omega, sq_leap e⟩
theorem bits_lt (h : Int) : bits h < 2 ^ 64 := by
 unfold bits
 omega
theorem lp_two (mask : Nat) (h : Int) : ∀ k, (lp mask h k).2 = bits h / 32 ^ k
 | 0 => by simp [lp]
 | k + 1 => by
   show (lp mask h k).2 / 32 = _
   rw [lp_two mask h k, Nat.div_div_eq_div_mul, Nat.pow_succ]
theorem lp_zero (mask : Nat) (h : Int) {k : Nat} (hk : 12 ≤ k) : (lp mask h k).2 / 32 = 0 := by
 rw [lp_two, Nat.div_div_eq_div_mul, ← Nat.pow_succ]
 refine Nat.div_eq_of_lt (Nat.lt_of_lt_of_le (bits_lt h) ?_)
 exact Nat.le_trans (by decide : 2 ^ 64 ≤ 32 ^ 13) (Nat.pow_le_pow_right (by decide) (by omega))
theorem lp_gg (mask : Nat) (h : Int) : ∀ n, (lp mask h (12 + n)).1 % (mask + 1) = gg n (lp mask h 12).1 % (mask + 1)
 | 0 => by simp [gg, cc]
 | n + 1 => by
   show ((lp mask h (12 + n)).1 * 5 + 1 + (lp mask h (12 + n)).2 / 32) % (mask + 1) % (mask + 1) = _
   rw [lp_zero mask h (by omega), Nat.mod_mod, Nat.add_zero]
   have ih := lp_gg mask h n
   have e : gg (n + 1) (lp mask h 12).1 = gg n (lp mask h 12).1 * 5 + 1 := by
     rw [Nat.add_comm n 1, gg_add]
     show 5 ^ 1 * _ + (5 * 0 + 1) = _
     omega
   rw [e, Nat.add_mod, Nat.mul_mod, ih, ← Nat.mul_mod, ← Nat.add_mod]
theorem lp_lt (mask : Nat) (h : Int) : ∀ k, (lp mask h k).1 < mask + 1
 | 0 => Nat.mod_lt _ (Nat.succ_pos _)
 | k + 1 => Nat.mod_lt _ (Nat.succ_pos _)
theorem cover {mask m : Nat} (hm : mask + 1 = 2 ^ m) (h : Int) {j : Nat} (hj : j ≤ mask) : ∃ n, n < 10 * turns mask ∧ (sq mask h n).j = j := by
 obtain ⟨n, hn, e⟩ := come m (lp mask h 12).1 j
 rw [← hm] at e hn
 have e2 := lp_gg mask h n
 rw [e, Nat.mod_eq_of_lt (lp_lt ..), Nat.mod_eq_of_lt (Nat.lt_succ_of_le hj)] at e2
 obtain ⟨k, hk, ek⟩ := sq_run mask h (12 + n)
 refine ⟨k, ?_, ?_⟩
 · unfold turns; omega
 · rw [ek]; exact e2
theorem sq_dm (mask : Nat) (h : Int) : ∀ n, (sq mask h n).dummy = none
 | 0 => rfl
 | n + 1 => by
   show ((T0 mask).advance (sq mask h n)).dummy = none
   unfold SetTable.advance
   split
   · exact sq_dm mask h n
   · exact sq_dm mask h n
theorem leastP {p : Nat → Prop} (n : Nat) (hp : p n) : ∃ m, m ≤ n ∧ p m ∧ ∀ k, k < m → ¬ p k := by
 induction n using Nat.strongRecOn with
 | ind n ih =>
   by_cases h : ∃ k, k < n ∧ p k
   · obtain ⟨k, hk, pk⟩ := h
     obtain ⟨m, h1, h2, h3⟩ := ih k hk pk
     exact ⟨m, by omega, h2, h3⟩
   · exact ⟨n, Nat.le_refl _, hp, fun k hk z => h ⟨k, hk, z⟩⟩
def Inc (xs : Array Nat) : Prop := ∀ i k, i < k → k < xs.size → xs.getD i 0 < xs.getD k 0
theorem getD_any {xs : Array Nat} {i : Nat} (h : i < xs.size) (a b : Nat) : xs.getD i a = xs.getD i b := by
 simp [Array.getD, h]
def BelowAt (xs : Array Nat) (j r : Nat) : Prop := r ≤ xs.size ∧ (∀ i, i < r → xs.getD i 0 < j) ∧ ∀ i, r ≤ i → i < xs.size → j ≤ xs.getD i 0
theorem below_go {xs : Array Nat} (hI : Inc xs) (j : Nat) : ∀ fuel lo hi, hi - lo ≤ fuel → lo ≤ hi → hi ≤ xs.size → (∀ i, i < lo → xs.getD i 0 < j) → (∀ i, hi ≤ i → i < xs.size → j ≤ xs.getD i 0) → BelowAt xs j (below.go xs j fuel lo hi)
 | 0, lo, hi, h1, h2, h3, h4, h5 => by
   obtain rfl : lo = hi := by omega
   exact ⟨h3, h4, h5⟩
 | fuel + 1, lo, hi, h1, h2, h3, h4, h5 => by
   unfold below.go
   split
   · rename_i hlt
     have hm : (lo + hi) / 2 < xs.size := by omega
     show BelowAt xs j (if xs.getD ((lo + hi) / 2) j < j then below.go xs j fuel ((lo + hi) / 2 + 1) hi else below.go xs j fuel lo ((lo + hi) / 2))
     rw [getD_any hm j 0]
     by_cases hc : xs.getD ((lo + hi) / 2) 0 < j
     · rw [if_pos hc]
       refine below_go hI j fuel ((lo + hi) / 2 + 1) hi (by omega) (by omega) h3 (fun i hi' => ?_) h5
       by_cases e : i = (lo + hi) / 2
       · subst e; exact hc
       · have := hI i ((lo + hi) / 2) (by omega) hm
         omega
     · rw [if_neg hc]
       refine below_go hI j fuel lo ((lo + hi) / 2) (by omega) (by omega) (by omega) h4 (fun i hi' hs => ?_)
       by_cases e : i = (lo + hi) / 2
       · subst e; omega
       · have := hI ((lo + hi) / 2) i (by omega) hs
         omega
   · obtain rfl : lo = hi := by omega
     exact ⟨h3, h4, h5⟩
theorem below_at {xs : Array Nat} (hI : Inc xs) (j : Nat) : BelowAt xs j (below xs j) := below_go hI j _ _ _ (by omega) (Nat.zero_le _) (Nat.le_refl _) (fun i h => absurd h (Nat.not_lt_zero _)) fun i h1 h2 => by omega
theorem below_here {xs : Array Nat} (hI : Inc xs) {i : Nat} (hi : i < xs.size) : below xs (xs.getD i 0) = i := by
 obtain ⟨h1, h2, h3⟩ := below_at hI (xs.getD i 0)
 by_cases e : below xs (xs.getD i 0) < i
 · have a := h3 _ (Nat.le_refl _) (by omega)
   have b := hI _ i e hi
   omega
 · by_cases e2 : i < below xs (xs.getD i 0)
   · exact absurd (h2 i e2) (Nat.lt_irrefl _)
   · omega
theorem get_of {xs : Array Nat} {i : Nat} (hi : i < xs.size) : xs[i]? = some (xs.getD i 0) := by
 simp [Array.getD, hi]
section
variable {t : SetTable} (hI : Inc t.place) (hd : t.dummies = #[])
include hI
theorem slot_live {i : Nat} (hi : i < t.place.size) : t.slot (t.place.getD i 0) = .live i := by
 unfold SetTable.slot
 dsimp only
 rw [below_here hI hi, get_of hi]
 simp
omit hI in
theorem live_at {i j : Nat} (h : t.slot j = .live i) : i < t.place.size ∧ t.place.getD i 0 = j := by
 unfold SetTable.slot at h
 dsimp only at h
 split at h
 · rename_i hc
   cases h
   have hc' := eq_of_beq hc
   obtain ⟨h1, h2⟩ := Array.getElem?_eq_some_iff.mp hc'
   exact ⟨h1, by simp [Array.getD, h1, h2]⟩
 · split at h <;> cases h
omit hI in
include hd in
theorem slot_or (j : Nat) : t.slot j = .empty ∨ ∃ i, t.slot j = .live i := by
 unfold SetTable.slot
 dsimp only
 split
 · exact .inr ⟨_, rfl⟩
 · have : has t.dummies j = false := by
     rw [hd]
     unfold has
     simp
   rw [this]
   exact .inl rfl
theorem empty_no {j i : Nat} (h : t.slot j = .empty) (hi : i < t.place.size) : t.place.getD i 0 ≠ j := fun e => by
 have := slot_live hI hi
 rw [e, h] at this
 cases this
omit hI in
include hd in
theorem slot_empty {j : Nat} (h : ∀ i, i < t.place.size → t.place.getD i 0 ≠ j) : t.slot j = .empty := by
 rcases slot_or hd j with e | ⟨i, e⟩
 · exact e
 · obtain ⟨h1, h2⟩ := live_at e
   exact absurd h2 (h i h1)
omit hI in
include hd in
theorem go_sq (hashAt : Nat → Int) (h : Int) (N : Nat) (h0 : t.slot (sq t.mask h N).j = .empty) (hb : ∀ k, k < N → t.slot (sq t.mask h k).j ≠ .empty) : ∀ fuel n, N < n + fuel → n ≤ N →
   (∃ k i, n ≤ k ∧ k < N ∧ t.slot (sq t.mask h k).j = .live i ∧ hashAt i = h ∧ (∀ k', n ≤ k' → k' < k → ∃ i', t.slot (sq t.mask h k').j = .live i' ∧ hashAt i' ≠ h) ∧ probe.go t hashAt h fuel (sq t.mask h n) = some (.candidate (sq t.mask h k).j i (sq t.mask h (k + 1))))
   ∨ ((∀ k, n ≤ k → k < N → ∃ i, t.slot (sq t.mask h k).j = .live i ∧ hashAt i ≠ h) ∧ probe.go t hashAt h fuel (sq t.mask h n) = some (.empty (sq t.mask h N).j none))
 | 0, n, h1, h2 => absurd h1 (by omega)
 | fuel + 1, n, h1, h2 => by
   by_cases e : n = N
   · subst e
     refine .inr ⟨fun k a b => by omega, ?_⟩
     unfold probe.go
     rw [h0, sq_dm]
   · obtain ⟨i, hi⟩ := (slot_or hd (sq t.mask h n).j).resolve_left (hb n (by omega))
     by_cases eh : hashAt i = h
     · refine .inl ⟨n, i, Nat.le_refl _, by omega, hi, eh, fun k' a b => by omega, ?_⟩
       unfold probe.go
       rw [hi]
       show (if hashAt i == h then _ else _) = _
       rw [if_pos (by simp [eh])]
       rfl
     · have gs : probe.go t hashAt h (fuel + 1) (sq t.mask h n) = probe.go t hashAt h fuel (sq t.mask h (n + 1)) := by
         rw [probe.go, hi]
         show (if hashAt i == h then _ else _) = _
         rw [if_neg (by simp [eh])]
         rfl
       rw [gs]
       have add : ∀ k', n ≤ k' → (n + 1 ≤ k' → ∃ i', t.slot (sq t.mask h k').j = .live i' ∧ hashAt i' ≠ h) → ∃ i', t.slot (sq t.mask h k').j = .live i' ∧ hashAt i' ≠ h := fun k' a b => by
         by_cases z : k' = n
         · subst z; exact ⟨i, hi, eh⟩
         · exact b (by omega)
       rcases go_sq hashAt h N h0 hb fuel (n + 1) (by omega) (by omega) with ⟨k, i', a1, a2, a3, a4, a5, a6⟩ | ⟨a1, a2⟩
       · exact .inl ⟨k, i', by omega, a2, a3, a4, fun k' b1 b2 => add k' b1 fun z => a5 k' z b2, a6⟩
       · exact .inr ⟨fun k b1 b2 => add k b1 fun z => a1 k z b2, a2⟩
end
end TB
namespace TB
open PySem PySem.SetTable
theorem len_nd {α : Type} [BEq α] [LawfulBEq α] {xs ys : List α} (h : xs.Nodup) (hs : ∀ k ∈ xs, k ∈ ys) : xs.length ≤ ys.length := by
 induction xs generalizing ys with
 | nil => exact Nat.zero_le _
 | cons x xs ih =>
   have hx : x ∈ ys := hs x (by simp)
   have h' := List.nodup_cons.mp h
   have := ih (ys := ys.erase x) h'.2 fun k hk => (List.mem_erase_of_ne (fun z : k = x => h'.1 (z ▸ hk))).mpr (hs k (List.mem_cons_of_mem _ hk))
   rw [List.length_erase_of_mem hx] at this
   have : 0 < ys.length := List.length_pos_of_mem hx
   simp only [List.length_cons]
   omega
theorem free_ex {ps : List Nat} {M : Nat} (h : ps.length < M) : ∃ j, j < M ∧ j ∉ ps := by
 refine Classical.byContradiction fun z => ?_
 have := len_nd (xs := List.range M) (ys := ps) List.nodup_range fun k hk => Classical.byContradiction fun q => z ⟨k, List.mem_range.mp hk, q⟩
 rw [List.length_range] at this
 omega
structure TOk (t : SetTable) (hs : List Int) (m : Nat) : Prop where
 mm : t.mask + 1 = 2 ^ m
 m3 : 3 ≤ m
 mb : m ≤ 13
 dm : t.dummies = #[]
 sz : t.place.size = hs.length
 inc : Inc t.place
 le : ∀ i, i < t.place.size → t.place.getD i 0 ≤ t.mask
 rm : t.place.size ≤ t.mask
 rc : ∀ i h, hs[i]? = some h → ∃ n, (sq t.mask h n).j = t.place.getD i 0 ∧ ∀ k, k < n → t.slot (sq t.mask h k).j ≠ .empty
theorem getD_list (xs : Array Nat) (i : Nat) : xs.getD i 0 = xs.toList[i]?.getD 0 := by
 rw [Array.getD_eq_getD_getElem?, Array.getElem?_toList]
theorem TOk.free {t : SetTable} {hs : List Int} {m : Nat} (O : TOk t hs m) (h : Int) : ∃ N, N < 10 * turns t.mask ∧ t.slot (sq t.mask h N).j = .empty ∧ ∀ k, k < N → t.slot (sq t.mask h k).j ≠ .empty := by
 obtain ⟨j, hj, hn⟩ := free_ex (ps := t.place.toList) (M := t.mask + 1) (by have := O.rm; simp; omega)
 obtain ⟨n, h1, h2⟩ := cover O.mm h (j := j) (by omega)
 have he : t.slot j = .empty := slot_empty O.dm fun i hi e => hn (by
   have := get_of hi
   rw [e] at this
   exact List.mem_of_getElem? (by rw [Array.getElem?_toList]; exact this))
 obtain ⟨N, a1, a2, a3⟩ := leastP (p := fun k => t.slot (sq t.mask h k).j = .empty) n (by rw [h2]; exact he)
 exact ⟨N, by omega, a2, a3⟩
def ins {α : Type} (p : Nat) (x : α) (l : List α) : List α := l.take p ++ x :: l.drop p
theorem ins_get {α : Type} {p : Nat} {x : α} {l : List α} (hp : p ≤ l.length) (i : Nat) : (ins p x l)[i]? = if i < p then l[i]? else if i = p then some x else l[i - 1]? := by
 unfold ins
 rw [List.getElem?_append]
 have hl : (l.take p).length = p := by rw [List.length_take]; omega
 rw [hl]
 by_cases h1 : i < p
 · rw [if_pos h1, if_pos h1, List.getElem?_take, if_pos h1]
 · rw [if_neg h1, if_neg h1]
   by_cases h2 : i = p
   · subst h2; simp
   · rw [if_neg h2, show i - p = (i - p - 1) + 1 by omega, List.getElem?_cons_succ, List.getElem?_drop]
     congr 1
     omega
theorem ins_len {α : Type} {p : Nat} {x : α} {l : List α} : (ins p x l).length = l.length + 1 := by
 unfold ins
 rw [List.length_append, List.length_cons, List.length_take, List.length_drop]
 omega
theorem insA {α : Type} (xs : Array α) (p : Nat) (x : α) : (insertAt xs p x).toList = ins p x xs.toList := by
 rw [SetTable.toList_insertAt]
 rfl
theorem TOk.put {t : SetTable} {hs : List Int} {m : Nat} (O : TOk t hs m) {h : Int} {N : Nat} (hz : t.place.size + 1 ≤ t.mask) (h0 : t.slot (sq t.mask h N).j = .empty) (hb : ∀ k, k < N → t.slot (sq t.mask h k).j ≠ .empty) (hm : (sq t.mask h N).j ≤ t.mask) (b : Bool) :
   TOk { (t.put (sq t.mask h N).j).1 with plain := b } (ins (below t.place (sq t.mask h N).j) h hs) m ∧ (t.put (sq t.mask h N).j).2 = below t.place (sq t.mask h N).j := by
 refine ⟨?_, rfl⟩
 generalize hj : (sq t.mask h N).j = j at *
 obtain ⟨b1, b2, b3⟩ := below_at O.inc j
 generalize hp : below t.place j = p at *
 have hd : has t.dummies j = false := by
   rw [O.dm]
   unfold has
   simp
 generalize ht : ({ (t.put j).1 with plain := b } : SetTable) = t'
 have mk' : t'.mask = t.mask := by subst ht; rfl
 have dm' : t'.dummies = #[] := by
   subst ht
   show (if has t.dummies j = true then _ else t.dummies) = #[]
   rw [if_neg (by rw [hd]; exact Bool.false_ne_true)]
   exact O.dm
 have pl : t'.place.toList = ins p j t.place.toList := by
   subst ht
   show (insertAt t.place (below t.place j) j).toList = _
   rw [insA, hp]
 have psz : t'.place.size = t.place.size + 1 := by
   rw [← Array.length_toList, pl, ins_len, Array.length_toList]
 have hpl : p ≤ t.place.toList.length := by simpa using b1
 have at' : ∀ i, t'.place.getD i 0 = if i < p then t.place.getD i 0 else if i = p then j else t.place.getD (i - 1) 0 := fun i => by
   rw [getD_list, pl, ins_get hpl]
   split
   · rw [getD_list]
   · split
     · rfl
     · rw [getD_list]
 have ne : ∀ i, i < t.place.size → t.place.getD i 0 ≠ j := fun i hi => empty_no O.inc h0 hi
 have inc' : Inc t'.place := fun i k hik hk => by
   rw [at', at']
   rw [psz] at hk
   by_cases c1 : k < p
   · rw [if_pos c1, if_pos (by omega)]
     exact O.inc i k hik (by omega)
   · rw [if_neg c1]
     by_cases c2 : k = p
     · rw [if_pos c2, if_pos (by omega)]
       exact b2 i (by omega)
     · rw [if_neg c2]
       by_cases c3 : i < p
       · rw [if_pos c3]
         exact O.inc i (k - 1) (by omega) (by omega)
       · rw [if_neg c3]
         by_cases c4 : i = p
         · rw [if_pos c4]
           have := b3 (k - 1) (by omega) (by omega)
           have := ne (k - 1) (by omega)
           omega
         · rw [if_neg c4]
           exact O.inc (i - 1) (k - 1) (by omega) (by omega)
 have keep : ∀ q, t.slot q ≠ .empty → t'.slot q ≠ .empty := fun q hq z => by
   obtain ⟨i, hi⟩ := (slot_or O.dm q).resolve_left hq
   obtain ⟨h1, h2⟩ := live_at hi
   by_cases c : i < p
   · refine empty_no inc' z (i := i) (by omega) ?_
     rw [at', if_pos c, h2]
   · refine empty_no inc' z (i := i + 1) (by omega) ?_
     rw [at', if_neg (by omega), if_neg (by omega)]
     exact h2
 have hsl : p ≤ hs.length := by rw [← O.sz]; exact b1
 refine ⟨by rw [mk']; exact O.mm, O.m3, O.mb, dm', by rw [psz, ins_len, O.sz], inc', fun i hi => ?_, by rw [psz, mk']; exact hz, fun i g hg => ?_⟩
 · rw [at', mk']
   split
   · exact O.le i (by omega)
   · split
     · exact hm
     · exact O.le (i - 1) (by omega)
 · rw [ins_get hsl] at hg
   rw [at', mk']
   have lift : ∀ i', hs[i']? = some g → ∃ n, (sq t.mask g n).j = t.place.getD i' 0 ∧ ∀ k, k < n → t'.slot (sq t.mask g k).j ≠ .empty := fun i' e => by
     obtain ⟨n, a, c⟩ := O.rc i' g e
     exact ⟨n, a, fun k hk => keep _ (c k hk)⟩
   by_cases c1 : i < p
   · rw [if_pos c1] at hg ⊢
     exact lift i hg
   · rw [if_neg c1] at hg ⊢
     by_cases c2 : i = p
     · rw [if_pos c2] at hg ⊢
       cases hg
       exact ⟨N, hj, fun k hk => keep _ (hb k hk)⟩
     · rw [if_neg c2] at hg ⊢
       exact lift (i - 1) hg
theorem sq_le {mask : Nat} (h : Int) : ∀ n, (sq mask h n).j ≤ mask ∧ (sq mask h n).more ≤ mask - (sq mask h n).j := by
 have hr : ∀ i, i < mask + 1 → runEnd mask i - i ≤ mask - i := fun i hi => by
   unfold runEnd
   split <;> omega
 intro n
 induction n with
 | zero =>
   have := Nat.mod_lt (bits h) (show mask + 1 > 0 by omega)
   exact ⟨by show bits h % (mask + 1) ≤ mask; omega, hr _ this⟩
 | succ n ih =>
   show ((T0 mask).advance (sq mask h n)).j ≤ mask ∧ ((T0 mask).advance (sq mask h n)).more ≤ mask - ((T0 mask).advance (sq mask h n)).j
   unfold SetTable.advance
   split
   · dsimp only
     omega
   · have := Nat.mod_lt ((sq mask h n).i * 5 + 1 + (sq mask h n).perturb / 32) (show mask + 1 > 0 by omega)
     exact ⟨by show ((sq mask h n).i * 5 + 1 + (sq mask h n).perturb / 32) % (mask + 1) ≤ mask; omega, hr _ this⟩
end TB
namespace TB
open PySem PySem.SetTable
def stn (mask : Nat) (h : Int) : Nat → Nat
 | 0 => 0
 | k + 1 => stn mask h k + (runEnd mask (lp mask h k).1 - (lp mask h k).1) + 1
theorem sq_st (mask : Nat) (h : Int) : ∀ k, sq mask h (stn mask h k) = rs mask (lp mask h k)
 | 0 => rfl
 | k + 1 => sq_leap (sq_st mask h k)
theorem cover_lp {mask m : Nat} (hm : mask + 1 = 2 ^ m) (h : Int) {j : Nat} (hj : j ≤ mask) : ∃ K, K ≤ 12 + mask ∧ (lp mask h K).1 = j := by
 obtain ⟨n, hn, e⟩ := come m (lp mask h 12).1 j
 rw [← hm] at e hn
 have e2 := lp_gg mask h n
 rw [e, Nat.mod_eq_of_lt (lp_lt ..), Nat.mod_eq_of_lt (Nat.lt_succ_of_le hj)] at e2
 exact ⟨12 + n, by omega, e2⟩
structure Own (mask : Nat) (hs : List Int) (ps : List Nat) (owner : Array (Option Nat)) : Prop where
 sz : owner.size = mask + 1
 nd : ps.Nodup
 le : ∀ p ∈ ps, p ≤ mask
 yes : ∀ (i p : Nat), ps[i]? = some p → owner.getD p none = some i
 no : ∀ j, j ≤ mask → j ∉ ps → owner.getD j none = none
 rc : ∀ (i p : Nat) (h : Int), ps[i]? = some p → hs[i]? = some h → ∃ n, (sq mask h n).j = p ∧ ∀ k, k < n → (sq mask h k).j ∈ ps
section
variable {mask : Nat} {hs : List Int} {ps : List Nat} {owner : Array (Option Nat)}
theorem Own.look (O : Own mask hs ps owner) {j : Nat} (hj : j ≤ mask) : (owner.getD j (some 0)).isNone = true ↔ j ∉ ps := by
 have e : owner.getD j (some 0) = owner.getD j none := by
   have := O.sz
   simp [Array.getD, show j < owner.size by omega]
 rw [e]
 constructor
 · intro h hp
   obtain ⟨i, hi⟩ := List.mem_iff_getElem?.mp hp
   rw [O.yes i j hi] at h
   cases h
 · intro h
   rw [O.no j hj h]
   rfl
theorem run_le {i d : Nat} (hi : i < mask + 1) (hd : d ≤ runEnd mask i - i) : i + d ≤ mask := by
 unfold runEnd at hd
 split at hd <;> omega
theorem free_lp (O : Own mask hs ps owner) (h : Int) (K : Nat) (hK : (lp mask h K).1 ∉ ps) : ∀ fuel k, K < k + fuel → k ≤ K →
   ∃ N, layClean.free mask owner fuel (lp mask h k).1 (lp mask h k).2 = some (sq mask h N).j ∧ (sq mask h N).j ∉ ps ∧ ∀ k', stn mask h k ≤ k' → k' < N → (sq mask h k').j ∈ ps
 | 0, k, h1, h2 => absurd h1 (by omega)
 | fuel + 1, k, h1, h2 => by
   have hl := lp_lt mask h k
   have pos : ∀ d, d ≤ runEnd mask (lp mask h k).1 - (lp mask h k).1 → (sq mask h (stn mask h k + d)).j = (lp mask h k).1 + d := fun d hd => by rw [sq_in (sq_st mask h k) d hd]
   have rge : (lp mask h k).1 ≤ runEnd mask (lp mask h k).1 := by unfold runEnd; split <;> omega
   unfold layClean.free
   cases e : (List.range (runEnd mask (lp mask h k).1 + 1 - (lp mask h k).1)).find? fun d => (owner.getD ((lp mask h k).1 + d) (some 0)).isNone with
   | some d =>
     dsimp only
     obtain ⟨e1, as, bs, e2, e3⟩ := List.find?_eq_some_iff_append.mp e
     have hd : d < runEnd mask (lp mask h k).1 + 1 - (lp mask h k).1 := by
       have : d ∈ List.range (runEnd mask (lp mask h k).1 + 1 - (lp mask h k).1) := by rw [e2]; simp
       exact List.mem_range.mp this
     have hd' : d ≤ runEnd mask (lp mask h k).1 - (lp mask h k).1 := by omega
     refine ⟨stn mask h k + d, by rw [pos d hd'], ?_, fun k' a1 a2 => ?_⟩
     · rw [pos d hd']
       exact (O.look (run_le hl hd')).mp e1
     · obtain ⟨c, rfl⟩ : ∃ c, k' = stn mask h k + c := ⟨k' - stn mask h k, by omega⟩
       have hc : c ≤ runEnd mask (lp mask h k).1 - (lp mask h k).1 := by omega
       rw [pos c hc]
       have hmem : c ∈ as := by
         have al : as = List.range as.length := by
           have := congrArg (List.take as.length) e2
           rw [List.take_left, List.take_range] at this
           have hle : as.length ≤ runEnd mask (lp mask h k).1 + 1 - (lp mask h k).1 := by
             have := congrArg List.length e2
             simp at this
             omega
           rw [Nat.min_eq_left hle] at this
           exact this.symm
         have ad : as.length = d := by
           have := congrArg (fun l => l[as.length]?) e2
           simp only [List.getElem?_append_right (Nat.le_refl _), Nat.sub_self, List.getElem?_cons_zero] at this
           rw [List.getElem?_eq_some_iff] at this
           obtain ⟨_, q⟩ := this
           rw [List.getElem_range] at q
           exact q
         rw [al, List.mem_range]
         omega
       have := e3 c hmem
       refine Classical.byContradiction fun z => ?_
       rw [(O.look (run_le hl hc)).mpr z] at this
       cases this
   | none =>
     have all : ∀ d, d ≤ runEnd mask (lp mask h k).1 - (lp mask h k).1 → (lp mask h k).1 + d ∈ ps := fun d hd => by
       have := List.find?_eq_none.mp e d (List.mem_range.mpr (by omega))
       refine Classical.byContradiction fun z => this ((O.look (run_le hl hd)).mpr z)
     have ne : k ≠ K := fun z => by
       subst z
       exact hK (by simpa using all 0 (Nat.zero_le _))
     obtain ⟨N, a1, a2, a3⟩ := free_lp O h K hK fuel (k + 1) (by omega) (by omega)
     refine ⟨N, a1, a2, fun k' b1 b2 => ?_⟩
     by_cases c : stn mask h (k + 1) ≤ k'
     · exact a3 k' c b2
     · obtain ⟨c', rfl⟩ : ∃ c, k' = stn mask h k + c := ⟨k' - stn mask h k, by omega⟩
       have hc : c' ≤ runEnd mask (lp mask h k).1 - (lp mask h k).1 := by
         have : stn mask h (k + 1) = stn mask h k + (runEnd mask (lp mask h k).1 - (lp mask h k).1) + 1 := rfl
         omega
       rw [pos c' hc]
       exact all c' hc
theorem Own.nil (mask : Nat) (hs : List Int) : Own mask hs [] (Array.replicate (mask + 1) none) :=
 { sz := by simp, nd := .nil, le := (fun p h => (List.not_mem_nil h).elim), yes := (fun i p h => by simp at h), no := (fun j hj _ => by simp [Array.getD]), rc := (fun i p h e => by simp at e) }
theorem Own.more (O : Own mask hs ps owner) {j : Nat} {h : Int} (hj : j ≤ mask) (hn : j ∉ ps) (hh : hs[ps.length]? = some h) {N : Nat} (e : (sq mask h N).j = j) (hb : ∀ k, k < N → (sq mask h k).j ∈ ps) : Own mask hs (ps ++ [j]) (owner.setIfInBounds j (some ps.length)) := by
 have hsz := O.sz
 have gd : ∀ q, q ≤ mask → (owner.setIfInBounds j (some ps.length)).getD q none = if q = j then some ps.length else owner.getD q none := fun q hq => by
   rw [Array.getD_eq_getD_getElem?, Array.getElem?_setIfInBounds, Array.getD_eq_getD_getElem?]
   by_cases c : q = j
   · subst c
     rw [if_pos rfl, if_pos rfl, if_pos (by omega)]
     rfl
   · rw [if_neg (Ne.symm c), if_neg c]
 have up : ∀ (i p : Nat), (ps ++ [j])[i]? = some p → (i < ps.length ∧ ps[i]? = some p) ∨ (i = ps.length ∧ p = j) := fun i p hi => by
   rw [List.getElem?_append] at hi
   split at hi
   · rename_i c; exact .inl ⟨c, hi⟩
   · rename_i c
     by_cases c2 : i = ps.length
     · subst c2; simp at hi; exact .inr ⟨rfl, hi.symm⟩
     · rw [List.getElem?_eq_none (by simp; omega)] at hi; cases hi
 refine ⟨by simpa using hsz, ?_, fun p hp => ?_, fun i p hi => ?_, fun q hq hqn => ?_, fun i p g hi hg => ?_⟩
 · exact List.nodup_append.mpr ⟨O.nd, by simp, fun a ha b hb => by rw [List.mem_singleton] at hb; subst hb; exact fun z => hn (z ▸ ha)⟩
 · rcases List.mem_append.mp hp with hp | hp
   · exact O.le p hp
   · rw [List.mem_singleton.mp hp]; exact hj
 · rcases up i p hi with ⟨h1, h2⟩ | ⟨h1, h2⟩
   · have pm := List.mem_of_getElem? h2
     rw [gd p (O.le p pm), if_neg (fun z : p = j => hn (z ▸ pm))]
     exact O.yes i p h2
   · subst h1 h2
     rw [gd p hj, if_pos rfl]
 · rw [gd q hq, if_neg (fun z => hqn (by simp [z]))]
   exact O.no q hq fun z => hqn (by simp [z])
 · rcases up i p hi with ⟨h1, h2⟩ | ⟨h1, h2⟩
   · obtain ⟨n, a, b⟩ := O.rc i p g h2 hg
     exact ⟨n, a, fun k hk => List.mem_append_left _ (b k hk)⟩
   · subst h1 h2
     rw [hh] at hg
     cases hg
     exact ⟨N, e, fun k hk => List.mem_append_left _ (hb k hk)⟩
abbrev stepL (mask : Nat) (acc : Option (Array (Option Nat) × Nat)) (h : Int) : Option (Array (Option Nat) × Nat) := do
 let (owner, k) ← acc
 let j ← layClean.free mask owner (turns mask) (bits h % (mask + 1)) (bits h)
 pure (owner.setIfInBounds j (some k), k + 1)
theorem fold_own {m : Nat} (hm : mask + 1 = 2 ^ m) (hz : hs.length ≤ mask) : ∀ (rest : List Int) (ps : List Nat) (owner : Array (Option Nat)), hs.drop ps.length = rest → ps.length ≤ hs.length → Own mask hs ps owner →
   ∃ ps' owner', rest.foldl (stepL mask) (some (owner, ps.length)) = some (owner', hs.length) ∧ Own mask hs ps' owner' ∧ ps'.length = hs.length
 | [], ps, owner, hd, hl, O => by
   have : ps.length = hs.length := by
     have := congrArg List.length hd
     simp at this
     omega
   exact ⟨ps, owner, by rw [this]; rfl, O, this⟩
 | h :: rest, ps, owner, hd, hl, O => by
   have hh : hs[ps.length]? = some h := by
     have := congrArg (fun l => l[0]?) hd
     simpa using this
   have hlt : ps.length < hs.length := (List.getElem?_eq_some_iff.mp hh).1
   obtain ⟨j, hj, hn⟩ := free_ex (ps := ps) (M := mask + 1) (by omega)
   obtain ⟨K, k1, k2⟩ := cover_lp hm h (j := j) (by omega)
   obtain ⟨N, a1, a2, a3⟩ := free_lp O h K (by rw [k2]; exact hn) (turns mask) 0 (by unfold turns; omega) (Nat.zero_le _)
   have st : stepL mask (some (owner, ps.length)) h = some (owner.setIfInBounds (sq mask h N).j (some ps.length), ps.length + 1) := by
     show ((layClean.free mask owner (turns mask) (lp mask h 0).1 (lp mask h 0).2).bind fun j => some (owner.setIfInBounds j (some ps.length), ps.length + 1)) = _
     rw [a1]
     rfl
   rw [List.foldl_cons, st]
   have O' := O.more (sq_le h N).1 a2 hh rfl fun k hk => a3 k (Nat.zero_le _) hk
   have := fold_own hm hz rest (ps ++ [(sq mask h N).j]) _ (by
     rw [List.length_append, List.length_singleton, ← List.drop_drop, hd]; rfl) (by simp; omega) O'
   rw [List.length_append, List.length_singleton] at this
   exact this
theorem clean_own {m : Nat} (hm : mask + 1 = 2 ^ m) (hz : hs.length ≤ mask) : ∃ ps owner, layClean mask hs.toArray = some owner ∧ Own mask hs ps owner ∧ ps.length = hs.length := by
 obtain ⟨ps, owner, a, b, c⟩ := fold_own hm hz hs [] _ rfl (Nat.zero_le _) (Own.nil mask hs)
 refine ⟨ps, owner, ?_, b, c⟩
 unfold layClean
 have e : (hs.toArray.foldl (stepL mask) (some (Array.replicate (mask + 1) none, 0))) = some (owner, hs.length) := by
   rw [← Array.foldl_toList]
   exact a
 show Option.map (·.1) (hs.toArray.foldl (stepL mask) (some (Array.replicate (mask + 1) none, 0))) = _
 rw [e]
 rfl
end
end TB
namespace TB
open PySem PySem.SetTable
theorem above_go (n : Nat) : ∀ fuel m, n < 2 ^ (m + fuel) → ∃ m', m ≤ m' ∧ sizeAbove.go n fuel (2 ^ m) = 2 ^ m' ∧ n < 2 ^ m' ∧ (m' = m ∨ 2 ^ m' ≤ 2 * n)
 | 0, m, h => ⟨m, Nat.le_refl _, rfl, h, .inl rfl⟩
 | fuel + 1, m, h => by
   unfold sizeAbove.go
   by_cases c : 2 ^ m ≤ n
   · rw [if_pos c, show 2 ^ m * 2 = 2 ^ (m + 1) from (Nat.pow_succ ..).symm]
     obtain ⟨m', a, b, d, e⟩ := above_go n fuel (m + 1) (by rw [show m + 1 + fuel = m + (fuel + 1) by omega]; exact h)
     refine ⟨m', by omega, b, d, .inr ?_⟩
     rcases e with e | e
     · rw [e, Nat.pow_succ]; omega
     · exact e
   · rw [if_neg c]
     exact ⟨m, Nat.le_refl _, rfl, by omega, .inl rfl⟩
theorem above {n : Nat} (hn : n < 2 ^ 60) : ∃ m, 3 ≤ m ∧ sizeAbove n = 2 ^ m ∧ n < 2 ^ m ∧ (m = 3 ∨ 2 ^ m ≤ 2 * n) :=
 above_go n 64 3 (Nat.lt_of_lt_of_le hn (Nat.pow_le_pow_right (by decide) (by decide)))
theorem fm_get {β γ : Type} {f : β → Option γ} : ∀ {l : List β}, (∀ b ∈ l, (f b).isSome = true) → ∀ a : Nat, (l.filterMap f)[a]? = l[a]?.bind f
 | [], _, a => by simp
 | b :: l, h, a => by
   obtain ⟨c, hc⟩ := Option.isSome_iff_exists.mp (h b (by simp))
   rw [List.filterMap_cons_some hc]
   cases a with
   | zero => simp [hc]
   | succ a =>
     rw [List.getElem?_cons_succ, List.getElem?_cons_succ]
     exact fm_get (fun b' hb => h b' (List.mem_cons_of_mem _ hb)) a
theorem relaid_ok {α : Type} (t : SetTable) (es : Array (Int × α)) (hz : es.size ≤ 1000) : ∃ t' order m, t.relaid (es.map (·.1)) (es.size * 4) = some (t', order) ∧ TOk t' ((order.filterMap (es[·]?)).toList.map (·.1)) m ∧ (order.filterMap (es[·]?)).toList.Perm es.toList ∧ t'.led = t.led ∧ t'.plain = t.plain ∧ t'.tooFull = false ∧ order.toList.Perm (List.range es.size) := by
 obtain ⟨m, m3, em, lm, um⟩ := above (n := es.size * 4) (by omega)
 have m13 : m ≤ 12 := by
   rcases um with rfl | um
   · decide
   · refine Nat.le_of_not_lt fun c => ?_
     have : 2 ^ 13 ≤ 2 ^ m := Nat.pow_le_pow_right (by decide) c
     omega
 unfold SetTable.relaid SetTable.laid
 rw [em]
 have hm : 2 ^ m - 1 + 1 = 2 ^ m := by omega
 generalize 2 ^ m - 1 = mask at hm ⊢
 have he : (es.map (·.1)) = (es.toList.map (·.1)).toArray := by
   apply Array.toList_inj.mp
   simp
 rw [he]
 generalize hhs : es.toList.map (·.1) = hs
 have hl : hs.length = es.size := by rw [← hhs]; simp
 obtain ⟨ps, owner, a, O, c⟩ := clean_own (mask := mask) (hs := hs) hm (by omega)
 rw [a]
 generalize hlv : ((List.range (mask + 1)).filterMap fun j => (owner.getD j none).map (j, ·)) = lv
 have mem1 : ∀ q ∈ lv, q.1 ≤ mask ∧ ps[q.2]? = some q.1 := fun q hq => by
   rw [← hlv] at hq
   obtain ⟨j, hj, e⟩ := List.mem_filterMap.mp hq
   have hj' := List.mem_range.mp hj
   cases eo : owner.getD j none with
   | none => rw [eo] at e; cases e
   | some i =>
     rw [eo] at e
     cases e
     refine ⟨Nat.le_of_lt_succ hj', ?_⟩
     refine Classical.byContradiction fun z => ?_
     by_cases hp : j ∈ ps
     · obtain ⟨i', hi'⟩ := List.mem_iff_getElem?.mp hp
       have := O.yes i' j hi'
       rw [eo] at this
       cases this
       exact z hi'
     · have := O.no j (by omega) hp
       rw [eo] at this
       cases this
 have mem2 : ∀ i j, ps[i]? = some j → (j, i) ∈ lv := fun i j h => by
   rw [← hlv]
   refine List.mem_filterMap.mpr ⟨j, List.mem_range.mpr (by have := O.le j (List.mem_of_getElem? h); omega), ?_⟩
   rw [O.yes i j h]
   rfl
 have rise : lv.Pairwise fun a b => a.1 < b.1 := by
   rw [← hlv, List.pairwise_filterMap]
   refine List.Pairwise.imp ?_ List.pairwise_lt_range
   intro x y hxy b hb b' hb'
   cases e1 : owner.getD x none with
   | none => rw [e1] at hb; cases hb
   | some i =>
     cases e2 : owner.getD y none with
     | none => rw [e2] at hb'; cases hb'
     | some i' =>
       rw [e1] at hb; rw [e2] at hb'
       cases hb; cases hb'
       exact hxy
 have nd2 : (lv.map (·.2)).Nodup := by
   unfold List.Nodup
   rw [List.pairwise_map]
   refine List.Pairwise.imp_of_mem ?_ rise
   intro x y hx hy hxy z
   have h1 := (mem1 x hx).2
   have h2 := (mem1 y hy).2
   rw [z, h2] at h1
   have := Option.some.inj h1
   omega
 have perm : (lv.map (·.2)).Perm (List.range es.size) := by
   refine (List.perm_ext_iff_of_nodup nd2 List.nodup_range).mpr fun i => ?_
   rw [List.mem_range, List.mem_map]
   constructor
   · rintro ⟨q, hq, rfl⟩
     have := (List.getElem?_eq_some_iff.mp (mem1 q hq).2).1
     omega
   · intro hi
     exact ⟨(ps[i]'(by omega), i), mem2 i _ (List.getElem?_eq_getElem (by omega)), rfl⟩
 have lvlen : lv.length = es.size := by simpa using perm.length_eq
 have fm : ((lv.map (·.2)).toArray.filterMap (es[·]?)).toList = (lv.map (·.2)).filterMap (es[·]?) := by simp
 have isS : ∀ i ∈ lv.map (·.2), (es[i]?).isSome = true := fun i hi => by
   have := List.mem_range.mp (perm.mem_iff.mp hi)
   simp [this]
 have p2 : ((lv.map (·.2)).toArray.filterMap (es[·]?)).toList.Perm es.toList := by
   rw [fm, ← filterMap_getElem?_range es]
   exact perm.filterMap _
 refine ⟨{ mask, place := ((lv.map (·.1)).toArray : Array Nat), dummies := #[], finger := t.finger, led := t.led, moves := t.movedTo mask, plain := t.plain }, (lv.map (·.2)).toArray, m, by rw [← hlv]; rfl, ?_, p2, rfl, rfl, ?_, by simpa using perm⟩
 · have pe : ((lv.map (·.1)).toArray : Array Nat).size = es.size := by simp [lvlen]
   have gd : ∀ i q, lv[i]? = some q → ((lv.map (·.1)).toArray : Array Nat).getD i 0 = q.1 := fun i q h => by
     rw [getD_list]
     simp [h]
   have inc : Inc ((lv.map (·.1)).toArray : Array Nat) := fun i k hik hk => by
     have hk' : k < lv.length := by simpa using hk
     rw [gd i lv[i] (List.getElem?_eq_getElem (by omega)), gd k lv[k] (List.getElem?_eq_getElem hk')]
     exact List.pairwise_iff_getElem.mp rise i k (by omega) hk' hik
   refine ⟨hm, m3, by omega, rfl, ?_, inc, fun i hi => ?_, ?_, fun i h hg => ?_⟩
   · show ((lv.map (·.1)).toArray : Array Nat).size = _
     rw [pe, List.length_map, p2.length_eq, Array.length_toList]
   · have hi' : i < lv.length := by simpa using hi
     show ((lv.map (·.1)).toArray : Array Nat).getD i 0 ≤ mask
     rw [gd i lv[i] (List.getElem?_eq_getElem hi')]
     exact (mem1 _ (List.getElem_mem hi')).1
   · show ((lv.map (·.1)).toArray : Array Nat).size ≤ mask
     rw [pe]; omega
   · rw [List.getElem?_map, fm, fm_get isS, List.getElem?_map] at hg
     cases eq : lv[i]? with
     | none => rw [eq] at hg; cases hg
     | some q =>
       rw [eq] at hg
       have hq := mem1 q (List.mem_of_getElem? eq)
       have hes : hs[q.2]? = some h := by
         rw [← hhs, List.getElem?_map, Array.getElem?_toList]
         exact hg
       obtain ⟨n, n1, n2⟩ := O.rc q.2 q.1 h hq.2 hes
       refine ⟨n, ?_, fun k hk z => ?_⟩
       · show _ = ((lv.map (·.1)).toArray : Array Nat).getD i 0
         rw [gd i q eq]
         exact n1
       · obtain ⟨i', hi'⟩ := List.mem_iff_getElem?.mp (n2 k hk)
         obtain ⟨a', ha'⟩ := List.mem_iff_getElem?.mp (mem2 i' _ hi')
         refine empty_no (t := { mask, place := ((lv.map (·.1)).toArray : Array Nat), dummies := #[], finger := t.finger, led := t.led, moves := t.movedTo mask, plain := t.plain }) inc z (i := a') ?_ ?_
         · show a' < ((lv.map (·.1)).toArray : Array Nat).size
           rw [pe, ← lvlen]
           exact (List.getElem?_eq_some_iff.mp ha').1
         · exact gd a' _ ha'
 · show decide (((lv.map (·.1)).toArray.size + (#[] : Array Nat).size) * 5 ≥ mask * 3) = false
   rw [show ((lv.map (·.1)).toArray : Array Nat).size = es.size by simp [lvlen]]
   have : (#[] : Array Nat).size = 0 := rfl
   have h8 : 2 ^ 3 ≤ 2 ^ m := Nat.pow_le_pow_right (by decide) m3
   refine decide_eq_false ?_
   omega
end TB
namespace HK
open PySem PySem.Spec PyProof.Rows
mutual
def hk : PyData → Bool
 | .int _ => true
 | .str _ => true
 | .tuple ds => hks ds
 | _ => false
def hks : List PyData → Bool
 | [] => true
 | d :: ds => hk d && hks ds
end
mutual
def hD (w : World) : PyData → Int
 | .int i => hashInt i
 | .str x => hashStr w x
 | .tuple ds => reduceHash (Builtin.Tuple.tupleHashOf (hDs w ds))
 | _ => 0
def hDs (w : World) : List PyData → List Int
 | [] => []
 | d :: ds => hD w d :: hDs w ds
end
mutual
def bv : PyData → Bool
 | .int _ => true
 | .tuple ds => bvs ds
 | _ => false
def bvs : List PyData → Bool
 | [] => true
 | d :: ds => bv d && bvs ds
end
mutual
def dr : PyData → Nat
 | .tuple ds => drs ds + 1
 | _ => 1
def drs : List PyData → Nat
 | [] => 0
 | d :: ds => dr d + drs ds
end
theorem hks_mem : ∀ {ds : List PyData}, hks ds = true → ∀ d ∈ ds, hk d = true
 | d :: ds, h, e, he => by
   simp only [hks, Bool.and_eq_true] at h
   rcases List.mem_cons.mp he with rfl | he
   · exact h.1
   · exact hks_mem h.2 e he
theorem dep_mem : ∀ {ds : List PyData} {d : PyData}, d ∈ ds → d.depth ≤ PyData.depthAll ds
 | e :: ds, d, h => by
   rw [PyData.depthAll]
   rcases List.mem_cons.mp h with rfl | h
   · exact Nat.le_max_left _ _
   · exact Nat.le_trans (dep_mem h) (Nat.le_max_right _ _)
mutual
theorem hk_solid : ∀ d : PyData, hk d = true → L3.solid d = true
 | .int _, _ => rfl
 | .str _, _ => rfl
 | .tuple ds, h => hks_solids ds (by simpa [hk] using h)
 | .none, h => rfl
 | .bool _, h => by simp [hk] at h
 | .list _, h => by simp [hk] at h
 | .dict _, h => by simp [hk] at h
theorem hks_solids : ∀ ds : List PyData, hks ds = true → L3.solids ds = true
 | [], _ => rfl
 | d :: ds, h => by
   simp only [hks, Bool.and_eq_true] at h
   rw [L3.solids, hk_solid d h.1, hks_solids ds h.2]
   rfl
end
section
variable {P : Program} {w : World}
theorem reads_cons {h : Heap} {v : Value} {vs : List Value} {ds : List PyData} {as : List Addr} (r : ReadsAll h (v :: vs) ds as) : ∃ d ds' a b, ds = d :: ds' ∧ Reads h v d a ∧ ReadsAll h vs ds' b := by
 cases r with
 | cons r1 r2 => exact ⟨_, _, _, _, rfl, r1, r2⟩
theorem hash_reads : ∀ (n : Nat) (d : PyData), d.depth ≤ n → hk d = true → ∀ (A : Around) (E : Value → Shared → Prop) (s : Shared) (v : Value) (as : List Addr) (Q : Int → Shared → Prop), A.units + d.depth < cLine → Reads s.heap v d as →
   Q (hD w d) { s with toks := s.toks + dr d } → wpAny (model P w) A (pyHash v) Q E s := by
 intro n
 induction n with
 | zero =>
   intro d hd hk' A E s v as Q hu r h
   cases r with
   | int i t => exact wpAny_pyHash_int h
   | str x t => exact wpAny_pyHash_str h
   | tuple _ _ _ _ => simp [PyData.depth] at hd
   | _ => simp [hk] at hk'
 | succ n ih =>
   intro d hd hk' A E s v as Q hu r h
   cases r with
   | int i t => exact wpAny_pyHash_int h
   | str x t => exact wpAny_pyHash_str h
   | @tuple a o vs c ds as ho hc hdt hr =>
     have hds : hks ds = true := by simpa [hk] using hk'
     rw [PyData.depth] at hd hu
     have hT : s.TypeIs (.ref a) "tuple" := ⟨o, ho, hc⟩
     unfold pyHash pyHashByItsType
     refine wpAny_bind (wpAny_cRoomFor_or (.inr (by omega)) ?_)
     refine wpAny_bind (wpAny_specialOf hT F.slot_tuple_hash.lookup ?_)
     show wpAny _ _ (if (some (Value.builtin "tuple.__hash__") == some Value.none) = true then _ else _) Q E s
     rw [if_neg (by rw [beq_builtin_none]; exact Bool.false_ne_true)]
     refine wpAny_bind (wpAny_specialOf hT F.slot_tuple_hash.lookup ?_)
     show wpAny _ _ (callSpecialIfBoundUnlessNone? (.ref a) "__hash__" _ >>= _) Q E s
     refine wpAny_bind (wpAny_callSpecialIfBoundUnlessNone?_slot hT F.slot_tuple_hash (wpAny_call_entry F.slot_tuple_hash hT F.entry_tuple_hash ?_ (F.args_tuple_hash_1 _)))
     show wpAny _ _ (Builtin.Tuple.tupleItemsOf (.ref a) >>= _) _ _ s
     refine wpAny_bind (wpAny_tupleItemsOf ho hdt ?_)
     refine wpAny_bind ?_
     rw [← Array.forIn_toList]
     refine wpAny_forIn_list _
       (fun rest (b : Array Int) s' => ∃ left as', ReadsAll s.heap rest left as' ∧ (∀ d ∈ left, d ∈ ds) ∧ b.toList ++ hDs w left = hDs w ds ∧ ∃ k, s' = { s with toks := s.toks + k } ∧ k + drs left = drs ds)
       _ ?_ ?_ _ _ ⟨ds, _, hr, fun _ z => z, rfl, 0, rfl, Nat.zero_add _⟩
     · rintro x rest b s' ⟨left, as', hl, hm, hb, k, rfl, hk2⟩
       obtain ⟨d, ds', a1, b1, rfl, r1, r2⟩ := reads_cons hl
       have hd' := hm d (by simp)
       have hdep := dep_mem hd'
       refine wpAny_bind (ih d (by omega) (hks_mem hds d hd') A.in1 _ { s with toks := s.toks + k } x a1 _ (by show A.units + 1 + d.depth < cLine; omega) r1 ?_)
       rw [hDs] at hb
       rw [drs] at hk2
       first
         | exact wpAny_pure ⟨ds', b1, r2, fun e z => hm e (List.mem_cons_of_mem _ z), by simpa using hb, k + dr d, by simp [Nat.add_assoc], by omega⟩
         | exact wpAny_bind (wpAny_pure (wpAny_pure ⟨ds', b1, r2, fun e z => hm e (List.mem_cons_of_mem _ z), by simpa using hb, k + dr d, by simp [Nat.add_assoc], by omega⟩))
     · rintro b s' ⟨left, as', hl, hm, hb, k, rfl, hk2⟩
       cases hl
       simp only [hDs, List.append_nil] at hb
       simp only [drs, Nat.add_zero] at hk2
       show wpAny _ _ (retInt (Builtin.Tuple.tupleHashOf b.toList)) _ _ _
       rw [hb]
       refine wpAny_ret_mkInt ?_
       rw [dr, hD] at h
       show wpAny _ _ (if (decide (-(2 : Int) ^ 63 ≤ Builtin.Tuple.tupleHashOf (hDs w ds)) && decide (Builtin.Tuple.tupleHashOf (hDs w ds) < 2 ^ 63)) = true then _ else _) Q E _
       unfold reduceHash at h
       subst hk2
       by_cases hr' : (decide (-(2 : Int) ^ 63 ≤ Builtin.Tuple.tupleHashOf (hDs w ds)) && decide (Builtin.Tuple.tupleHashOf (hDs w ds) < 2 ^ 63)) = true
       · rw [if_pos hr']
         rw [if_pos hr'] at h
         exact wpAny_pure (by simpa [Nat.add_assoc] using h)
       · rw [if_neg hr']
         rw [if_neg hr'] at h
         exact wpAny_bind (wpAny_rule (wpAny_pure (by simpa [Nat.add_assoc] using h)))
   | _ => simp [hk] at hk'
theorem quiet_reads : ∀ (n : Nat) (d : PyData), d.depth ≤ n → hk d = true → ∀ (A : Around) (E : Value → Shared → Prop) (s : Shared) (v : Value) (as : List Addr) (Q : Bool → Shared → Prop), Reads s.heap v d as → Q true s → wpAny (model P w) A (eqIsQuiet n v) Q E s := by
 intro n
 induction n with
 | zero =>
   intro d hd hk' A E s v as Q r h
   cases r with
   | int i t => exact wpAny_of_eq (eqIsQuiet_byValue _ rfl) h
   | str x t => exact wpAny_of_eq (eqIsQuiet_byValue _ rfl) h
   | tuple _ _ _ _ => simp [PyData.depth] at hd
   | _ => simp [hk] at hk'
 | succ n ih =>
   intro d hd hk' A E s v as Q r h
   cases r with
   | int i t => exact wpAny_of_eq (eqIsQuiet_byValue _ rfl) h
   | str x t => exact wpAny_of_eq (eqIsQuiet_byValue _ rfl) h
   | @tuple a o vs c ds as ho hc hdt hr =>
     have hds : hks ds = true := by simpa [hk] using hk'
     rw [PyData.depth] at hd
     have hT : s.TypeIs (.ref a) "tuple" := ⟨o, ho, hc⟩
     unfold eqIsQuiet
     refine wpAny_bind (wpAny_specialOf hT F.slot_tuple_eq.lookup ?_)
     show wpAny _ _ (isInstance (.ref a) (.type "tuple") >>= _) _ _ s
     refine wpAny_bind (wpAny_isInstance hT isSubtype_tuple_tuple ?_)
     simp only [Bool.not_true, Bool.false_eq_true, if_false]
     refine wpAny_bind (wpAny_seqItems ho hdt ?_)
     refine wpAny_bind ?_
     show wpAny _ _ (forIn vs _ _) _ _ s
     rw [← Array.forIn_toList]
     refine wpAny_forIn_list _ (fun rest r s' => r.1 = none ∧ s' = s ∧ ∃ left as', ReadsAll s.heap rest left as' ∧ ∀ d ∈ left, d ∈ ds) _ ?_ ?_ _ _ ⟨rfl, rfl, ds, _, hr, fun _ z => z⟩
     · rintro v rest r s' ⟨hr', rfl, left, as', hl, hm⟩
       obtain ⟨d, ds', a1, b1, rfl, r1, r2⟩ := reads_cons hl
       have hd' := hm d (by simp)
       have hdep := dep_mem hd'
       refine wpAny_bind (ih d (by omega) (hks_mem hds d hd') _ _ _ v a1 _ r1 ?_)
       simp only [Bool.not_true, Bool.false_eq_true, if_false]
       exact wpAny_pure ⟨rfl, rfl, ds', b1, r2, fun e z => hm e (List.mem_cons_of_mem _ z)⟩
     · rintro ⟨r1, r2⟩ s' ⟨hr', rfl, _⟩
       simp only at hr'
       subst hr'
       exact wpAny_pure h
   | _ => simp [hk] at hk'
theorem class_reads : ∀ (n : Nat) (d : PyData), d.depth ≤ n → hk d = true → ∀ (A : Around) (E : Value → Shared → Prop) (s : Shared) (v : Value) (as : List Addr) (Q : Bool → Shared → Prop), Reads s.heap v d as → Q false s → wpAny (model P w) A (ofAClassStatement n v) Q E s := by
 intro n
 induction n with
 | zero =>
   intro d hd hk' A E s v as Q r h
   cases r with
   | int i t => exact wpAny_pure h
   | str x t => exact wpAny_pure h
   | tuple _ _ _ _ => simp [PyData.depth] at hd
   | _ => simp [hk] at hk'
 | succ n ih =>
   intro d hd hk' A E s v as Q r h
   cases r with
   | int i t => exact wpAny_pure h
   | str x t => exact wpAny_pure h
   | @tuple a o vs c ds as ho hc hdt hr =>
     have hds : hks ds = true := by simpa [hk] using hk'
     rw [PyData.depth] at hd
     have hT : s.TypeIs (.ref a) "tuple" := ⟨o, ho, hc⟩
     unfold ofAClassStatement
     refine wpAny_bind (wpAny_typeOf hT ?_)
     refine wpAny_bind (wpAny_pure ?_)
     refine SX.wp_f (by decide) ?_
     refine wpAny_bind (wpAny_seqItems ho hdt ?_)
     refine wpAny_bind ?_
     show wpAny _ _ (forIn vs _ _) _ _ s
     rw [← Array.forIn_toList]
     refine wpAny_forIn_list _ (fun rest r s' => r.1 = none ∧ s' = s ∧ ∃ left as', ReadsAll s.heap rest left as' ∧ ∀ d ∈ left, d ∈ ds) _ ?_ ?_ _ _ ⟨rfl, rfl, ds, _, hr, fun _ z => z⟩
     · rintro v rest r s' ⟨hr', rfl, left, as', hl, hm⟩
       obtain ⟨d, ds', a1, b1, rfl, r1, r2⟩ := reads_cons hl
       have hd' := hm d (by simp)
       have hdep := dep_mem hd'
       refine wpAny_bind (ih d (by omega) (hks_mem hds d hd') _ _ _ v a1 _ r1 ?_)
       simp only [Bool.false_eq_true, if_false]
       exact wpAny_pure ⟨rfl, rfl, ds', b1, r2, fun e z => hm e (List.mem_cons_of_mem _ z)⟩
     · rintro ⟨r1, r2⟩ s' ⟨hr', rfl, _⟩
       simp only at hr'
       subst hr'
       exact wpAny_pure h
   | _ => simp [hk] at hk'
theorem byv_reads : ∀ (n : Nat) (d : PyData), d.depth ≤ n → hk d = true → ∀ (A : Around) (E : Value → Shared → Prop) (s : Shared) (v : Value) (as : List Addr) (Q : Bool → Shared → Prop), Reads s.heap v d as → Q (bv d) s → wpAny (model P w) A (hashByValue n v) Q E s := by
 intro n
 induction n with
 | zero =>
   intro d hd hk' A E s v as Q r h
   cases r with
   | int i t => exact wpAny_of_eq (hashByValue_scannable 0 rfl) h
   | str x t => exact wpAny_of_eq (hashByValue_scannable 0 rfl) h
   | tuple _ _ _ _ => simp [PyData.depth] at hd
   | _ => simp [hk] at hk'
 | succ n ih =>
   intro d hd hk' A E s v as Q r h
   cases r with
   | int i t => exact wpAny_of_eq (hashByValue_scannable _ rfl) h
   | str x t => exact wpAny_of_eq (hashByValue_scannable _ rfl) h
   | @tuple a o vs c ds as ho hc hdt hr =>
     have hds : hks ds = true := by simpa [hk] using hk'
     rw [PyData.depth] at hd
     rw [bv] at h
     have hT : s.TypeIs (.ref a) "tuple" := ⟨o, ho, hc⟩
     unfold hashByValue
     refine wpAny_bind (wpAny_specialOf hT F.slot_tuple_hash.lookup ?_)
     show wpAny _ _ (seqItems? (.ref a) >>= _) _ _ s
     refine wpAny_bind (wpAny_seqItems ho hdt ?_)
     refine wpAny_bind ?_
     show wpAny _ _ (forIn vs _ _) _ _ s
     rw [← Array.forIn_toList]
     refine wpAny_forIn_list _ (fun rest r s' => r.1 = none ∧ s' = s ∧ ∃ left as', ReadsAll s.heap rest left as' ∧ (∀ d ∈ left, d ∈ ds) ∧ bvs left = bvs ds) _ ?_ ?_ _ _ ⟨rfl, rfl, ds, _, hr, fun _ z => z, rfl⟩
     · rintro v rest r s' ⟨hr', rfl, left, as', hl, hm, hb⟩
       obtain ⟨d, ds', a1, b1, rfl, r1, r2⟩ := reads_cons hl
       have hd' := hm d (by simp)
       have hdep := dep_mem hd'
       refine wpAny_bind (ih d (by omega) (hks_mem hds d hd') _ _ _ v a1 _ r1 ?_)
       rw [bvs] at hb
       cases e : bv d with
       | true =>
         rw [e] at hb
         simp only [Bool.not_true, Bool.false_eq_true, if_false]
         exact wpAny_pure ⟨rfl, rfl, ds', b1, r2, fun e z => hm e (List.mem_cons_of_mem _ z), by simpa using hb⟩
       | false =>
         rw [e] at hb
         simp only [Bool.not_false, if_true]
         rw [← hb] at h
         exact wpAny_pure (wpAny_pure h)
     · rintro ⟨r1, r2⟩ s' ⟨hr', rfl, left, as', hl, hm, hb⟩
       simp only at hr'
       subst hr'
       cases hl
       rw [← hb] at h
       exact wpAny_pure h
   | _ => simp [hk] at hk'
end
end HK
namespace HK
open PySem PySem.Spec PyProof.Rows PySem.W
mutual
def dlt : PyData → PyData → Bool
 | .int i, .int j => decide (i < j)
 | .str x, .str y => decide (x.cps.toList < y.cps.toList)
 | .tuple xs, .tuple ys => dlts xs ys
 | _, _ => false
def dlts : List PyData → List PyData → Bool
 | [], [] => false
 | [], _ :: _ => true
 | _ :: _, [] => false
 | x :: xs, y :: ys => if PyData.eqv x y then dlts xs ys else dlt x y
end
inductive Sh where
 | n
 | t
 | arr (s : Sh)
 | fnil
 | fcons (a r : Sh)
def HasSh : Sh → PyData → Prop
 | .n, d => ∃ i, d = .int i
 | .t, d => ∃ x, d = .str x
 | .arr s, d => ∃ xs, d = .tuple xs ∧ ∀ x ∈ xs, HasSh s x
 | .fnil, d => d = .tuple []
 | .fcons a r, d => ∃ x xs, d = .tuple (x :: xs) ∧ HasSh a x ∧ HasSh r (.tuple xs)
theorem hks_of : ∀ {ds : List PyData}, (∀ d ∈ ds, hk d = true) → hks ds = true
 | [], _ => rfl
 | d :: ds, h => by rw [hks, h d (by simp), hks_of fun e z => h e (List.mem_cons_of_mem _ z)]; rfl
theorem sh_hk : ∀ (σ : Sh) (d : PyData), HasSh σ d → hk d = true
 | .n, _, ⟨_, e⟩ => by subst e; rfl
 | .t, _, ⟨_, e⟩ => by subst e; rfl
 | .arr s, _, ⟨xs, e, h⟩ => by subst e; rw [hk]; exact hks_of fun d z => sh_hk s d (h d z)
 | .fnil, _, e => by subst e; rfl
 | .fcons a r, _, ⟨x, xs, e, h1, h2⟩ => by
   subst e
   have := sh_hk r _ h2
   rw [hk] at this
   rw [hk, hks, sh_hk a x h1, this]
   rfl
theorem sh_eqv {σ : Sh} {d e : PyData} (h : HasSh σ d) (h' : HasSh σ e) : PyData.eqv d e = true ↔ d = e := L3.eqv_solid d e (hk_solid d (sh_hk σ d h)) (hk_solid e (sh_hk σ e h'))
structure TO (F : PyData → Prop) : Prop where
 irr : ∀ a, F a → dlt a a = false
 tr : ∀ a b c, F a → F b → F c → dlt a b = true → dlt b c = true → dlt a c = true
 tri : ∀ a b, F a → F b → dlt a b = true ∨ a = b ∨ dlt b a = true
theorem dlts_cons {σ : Sh} {x y : PyData} (hx : HasSh σ x) (hy : HasSh σ y) (xs ys : List PyData) : dlts (x :: xs) (y :: ys) = true ↔ (x = y ∧ dlts xs ys = true) ∨ (x ≠ y ∧ dlt x y = true) := by
 rw [dlts]
 by_cases e : x = y
 · rw [if_pos ((sh_eqv hx hy).mpr e)]
   simp [e]
 · rw [if_neg (fun c => e ((sh_eqv hx hy).mp c))]
   simp [e]
theorem dlts_irr {σ : Sh} (T : TO (HasSh σ)) : ∀ {xs : List PyData}, (∀ x ∈ xs, HasSh σ x) → dlts xs xs = false
 | [], _ => rfl
 | x :: xs, h => by
   have hx := h x (by simp)
   rw [dlts, if_pos ((sh_eqv hx hx).mpr rfl)]
   exact dlts_irr T fun y z => h y (List.mem_cons_of_mem _ z)
theorem step_tr {σ : Sh} (T : TO (HasSh σ)) {x y z : PyData} {xs ys zs : List PyData} (hx : HasSh σ x) (hy : HasSh σ y) (hz : HasSh σ z) (ih : dlts xs ys = true → dlts ys zs = true → dlts xs zs = true) (h1 : dlts (x :: xs) (y :: ys) = true) (h2 : dlts (y :: ys) (z :: zs) = true) : dlts (x :: xs) (z :: zs) = true := by
 rw [dlts_cons hx hz]
 rcases (dlts_cons hx hy xs ys).mp h1 with ⟨rfl, a⟩ | ⟨a, b⟩
 · rcases (dlts_cons hx hz ys zs).mp h2 with ⟨rfl, c⟩ | ⟨c, d⟩
   · exact .inl ⟨rfl, ih a c⟩
   · exact .inr ⟨c, d⟩
 · rcases (dlts_cons hy hz ys zs).mp h2 with ⟨rfl, c⟩ | ⟨c, d⟩
   · exact .inr ⟨a, b⟩
   · have t := T.tr x y z hx hy hz b d
     refine .inr ⟨fun e => ?_, t⟩
     rw [e, T.irr z hz] at t
     cases t
theorem dlts_tr {σ : Sh} (T : TO (HasSh σ)) : ∀ {xs ys zs : List PyData}, (∀ x ∈ xs, HasSh σ x) → (∀ x ∈ ys, HasSh σ x) → (∀ x ∈ zs, HasSh σ x) → dlts xs ys = true → dlts ys zs = true → dlts xs zs = true
 | [], [], _, _, _, _, h, _ => by cases h
 | [], _ :: _, [], _, _, _, _, h => by cases h
 | [], _ :: _, _ :: _, _, _, _, _, _ => rfl
 | _ :: _, [], _, _, _, _, h, _ => by cases h
 | _ :: _, _ :: _, [], _, _, _, _, h => by cases h
 | x :: xs, y :: ys, z :: zs, a, b, c, h1, h2 => step_tr T (a x (by simp)) (b y (by simp)) (c z (by simp)) (dlts_tr T (fun q w => a q (List.mem_cons_of_mem _ w)) (fun q w => b q (List.mem_cons_of_mem _ w)) (fun q w => c q (List.mem_cons_of_mem _ w))) h1 h2
theorem step_tri {σ : Sh} (T : TO (HasSh σ)) {x y : PyData} {xs ys : List PyData} (hx : HasSh σ x) (hy : HasSh σ y) (ih : dlts xs ys = true ∨ xs = ys ∨ dlts ys xs = true) : dlts (x :: xs) (y :: ys) = true ∨ x :: xs = y :: ys ∨ dlts (y :: ys) (x :: xs) = true := by
 rw [dlts_cons hx hy, dlts_cons hy hx]
 by_cases e : x = y
 · subst e
   rcases ih with i | i | i
   · exact .inl (.inl ⟨rfl, i⟩)
   · exact .inr (.inl (by rw [i]))
   · exact .inr (.inr (.inl ⟨rfl, i⟩))
 · rcases T.tri x y hx hy with i | i | i
   · exact .inl (.inr ⟨e, i⟩)
   · exact absurd i e
   · exact .inr (.inr (.inr ⟨Ne.symm e, i⟩))
theorem dlts_tri {σ : Sh} (T : TO (HasSh σ)) : ∀ {xs ys : List PyData}, (∀ x ∈ xs, HasSh σ x) → (∀ x ∈ ys, HasSh σ x) → dlts xs ys = true ∨ xs = ys ∨ dlts ys xs = true
 | [], [], _, _ => .inr (.inl rfl)
 | [], _ :: _, _, _ => .inl rfl
 | _ :: _, [], _, _ => .inr (.inr rfl)
 | x :: xs, y :: ys, a, b => step_tri T (a x (by simp)) (b y (by simp)) (dlts_tri T (fun q w => a q (List.mem_cons_of_mem _ w)) (fun q w => b q (List.mem_cons_of_mem _ w)))
theorem str_cps {x y : Str} (h : x.cps.toList = y.cps.toList) : x = y := by
 obtain ⟨a⟩ := x
 obtain ⟨b⟩ := y
 congr
 exact Array.toList_inj.mp h
theorem sh_to : ∀ σ : Sh, TO (HasSh σ)
 | .n => by
   refine ⟨fun a ⟨i, e⟩ => ?_, fun a b c ⟨i, e⟩ ⟨j, e2⟩ ⟨k, e3⟩ h1 h2 => ?_, fun a b ⟨i, e⟩ ⟨j, e2⟩ => ?_⟩
   · subst e; simp [dlt]
   · subst e e2 e3; simp [dlt] at *; omega
   · subst e e2; simp [dlt]; omega
 | .t => by
   refine ⟨fun a ⟨i, e⟩ => ?_, fun a b c ⟨i, e⟩ ⟨j, e2⟩ ⟨k, e3⟩ h1 h2 => ?_, fun a b ⟨i, e⟩ ⟨j, e2⟩ => ?_⟩
   · subst e; simp [dlt, List.lt_irrefl]
   · subst e e2 e3
     simp only [dlt, decide_eq_true_eq] at *
     exact List.lt_trans h1 h2
   · subst e e2
     simp only [dlt, decide_eq_true_eq]
     by_cases c : i.cps.toList < j.cps.toList
     · exact .inl c
     · by_cases c2 : j.cps.toList < i.cps.toList
       · exact .inr (.inr c2)
       · exact .inr (.inl (by rw [str_cps (List.le_antisymm (List.not_lt.mp c2) (List.not_lt.mp c))]))
 | .arr s => by
   have T := sh_to s
   refine ⟨fun a ⟨xs, e, h⟩ => ?_, fun a b c ⟨xs, e, h⟩ ⟨ys, e2, h2⟩ ⟨zs, e3, h3⟩ h4 h5 => ?_, fun a b ⟨xs, e, h⟩ ⟨ys, e2, h2⟩ => ?_⟩
   · subst e; exact dlts_irr T h
   · subst e e2 e3; exact dlts_tr T h h2 h3 h4 h5
   · subst e e2
     rcases dlts_tri T h h2 with i | i | i
     · exact .inl i
     · exact .inr (.inl (by rw [i]))
     · exact .inr (.inr i)
 | .fnil => by
   refine ⟨fun a e => ?_, fun a b c e e2 e3 h4 h5 => ?_, fun a b e e2 => ?_⟩
   · have e : a = .tuple [] := e
     subst e; rfl
   · have e : a = .tuple [] := e
     have e2 : b = .tuple [] := e2
     subst e e2; cases h4
   · have e : a = .tuple [] := e
     have e2 : b = .tuple [] := e2
     exact .inr (.inl (e.trans e2.symm))
 | .fcons f r => by
   have T := sh_to f
   have U := sh_to r
   refine ⟨fun a ⟨x, xs, e, h, g⟩ => ?_, fun a b c ⟨x, xs, e, h, g⟩ ⟨y, ys, e2, h2, g2⟩ ⟨z, zs, e3, h3, g3⟩ h4 h5 => ?_, fun a b ⟨x, xs, e, h, g⟩ ⟨y, ys, e2, h2, g2⟩ => ?_⟩
   · subst e
     show dlts (x :: xs) (x :: xs) = false
     rw [dlts, if_pos ((sh_eqv h h).mpr rfl)]
     exact U.irr _ g
   · subst e e2 e3
     exact step_tr T h h2 h3 (fun p q => U.tr _ _ _ g g2 g3 p q) h4 h5
   · subst e e2
     have := step_tri T h h2 (xs := xs) (ys := ys) (by
       rcases U.tri _ _ g g2 with i | i | i
       · exact .inl i
       · exact .inr (.inl (by injection i))
       · exact .inr (.inr i))
     rcases this with i | i | i
     · exact .inl i
     · exact .inr (.inl (by rw [i]))
     · exact .inr (.inr i)
theorem wo_sh (σ : Sh) : L6.WO (fun a b : { d : PyData // HasSh σ d } => dlt a.1 b.1) := by
 have T := sh_to σ
 refine ⟨fun a => T.irr _ a.2, fun a b c h h' => T.tr _ _ _ a.2 b.2 c.2 h h', fun a b c h => ?_⟩
 rcases T.tri a.1 b.1 a.2 b.2 with i | i | i
 · exact .inl i
 · right; rw [← i]; exact h
 · exact .inr (T.tr _ _ _ b.2 a.2 c.2 i h)
end HK
namespace HK
open PySem PySem.Spec PyProof.Rows PySem.W
def LtOk (d e : PyData) : Prop := ∀ (prog : Program) (w : World) (A : Around) (E : Value → Shared → Prop) (s : Shared) (v u : Value) (as bs : List Addr) (Q : Value → Shared → Prop), Reads s.heap v d as → Reads s.heap u e bs → A.units + d.depth + 2 < cLine → Q (.bool (dlt d e)) s → wpAny (model prog w) A (compareOp .Lt v u) Q E s
section
open PySem.SeqAt
open PySem.AutoSeq1 (wpAny_loadPart')
open PySem.MeetsSeq PySem.MeetsSeq2 PySem.MeetsSeq3
theorem tuple_lt_data (l b : Addr) (items items2 : Array Value) (n n2 : Nat) (dd dd2 : Option Addr) (sl sl2 : Array (Option Value)) (xs ys : List PyData) (hx : PyData.canLayAll0 xs = true) (hy : PyData.canLayAll0 ys = true) (hp : ∀ p ∈ xs.zip ys, LtOk p.1 p.2) :
   Meets (Builtin.«tuple.__lt__» ⟨[.ref l, .ref b], []⟩)
     (fun A R s => s.heap.get? l = some { cls := .type "tuple", dict := dd, data := .seq items n, slots := sl } ∧ s.heap.get? b = some { cls := .type "tuple", dict := dd2, data := .seq items2 n2, slots := sl2 } ∧
       (∃ as bs, ReadsAll s.heap items.toList xs as ∧ ReadsAll s.heap items2.toList ys bs) ∧ A.units + PyData.depthAll xs + 3 < cLine ∧ R (.ok (.ret (.bool (dlts xs ys)))) s) :=
 .of_wp fun prog w A R s h => by
   obtain ⟨hp', g, d, tk, os⟩ := s; obtain ⟨hl, hb, ⟨as, bs, r1, r2⟩, hu, h⟩ := h
   have f2 := AutoSeq1.sub_tuple_tuple
   have z1 : items.size = xs.length := by simpa using ReadsAll.length _ _ _ r1
   have z2 : items2.size = ys.length := by simpa using ReadsAll.length _ _ _ r2
   wp_walk using wpAny_loadPart' hl, wpAny_loadPart' hb, wpAny_forIn_list _ (fun rest b s' => b.1 = none ∧ s' = ⟨hp', g, d, tk, os⟩ ∧ ∃ (vs ws : List Value) (xs' ys' : List PyData) (as' bs' : List Addr), rest = vs.zip ws ∧
     ReadsAll hp' vs xs' as' ∧ ReadsAll hp' ws ys' bs' ∧ xs'.length + items2.size = ys'.length + items.size ∧ PyData.canLayAll0 xs' = true ∧ PyData.canLayAll0 ys' = true ∧ (∀ p ∈ xs'.zip ys', LtOk p.1 p.2) ∧ PyData.depthAll xs' ≤ PyData.depthAll xs ∧ R (.ok (.ret (.bool (dlts xs' ys')))) ⟨hp', g, d, tk, os⟩) _
   case turn =>
     rintro ⟨y, x⟩ rest b s' ⟨hb', rfl, vs, ws, xs', ys', as', bs', hz, hvi, hwi, hlen, cx, cy, hpp, hdp, hR⟩
     cases hvi with
     | nil => rw [List.zip_nil_left] at hz; cases hz
     | @cons v vs d1 ds1 a1 b1 q1 hvi' =>
       cases hwi with
       | nil => rw [List.zip_nil_right] at hz; cases hz
       | @cons v2 vs2 d2 ds2 a2 b2 q2 hwi' =>
         rw [List.zip_cons_cons] at hz
         injection hz with hyx hrest
         injection hyx with hy' hx'
         subst hy' hx'
         rw [dlts] at hR
         simp only [List.length_cons] at hlen
         simp only [PyData.canLayAll0, Bool.and_eq_true] at cx cy
         rw [PyData.depthAll] at hdp
         refine wpAny_bind (eqBoolOverData _ _ _ _ _ _ _ d1 d2 _ _ _ q1 q2 cx.1 cy.1 (by show A.units + 1 + min d1.depth d2.depth < cLine; omega) ?_)
         cases e : PyData.eqv d1 d2 with
         | true =>
           rw [e, if_pos rfl] at hR
           wp_walk
           exact ⟨rfl, rfl, _, _, _, _, _, _, hrest, hvi', hwi', by omega, cx.2, cy.2, fun p z => hpp p (List.mem_cons_of_mem _ z), by omega, hR⟩
         | false =>
           rw [e, if_neg Bool.false_ne_true] at hR
           have hri : ∀ (E : Value → Shared → Prop) (Q : Value → Shared → Prop), Q (.bool (dlt d1 d2)) ⟨hp', g, d, tk, os⟩ → wpAny (model prog w) A.in1 (richCompare .Lt y x) Q E ⟨hp', g, d, tk, os⟩ := fun E Q q =>
             hpp (d1, d2) (by simp) prog w A.in1 E ⟨hp', g, d, tk, os⟩ y x _ _ Q q1 q2 (by show A.units + 1 + d1.depth + 2 < cLine; omega) q
           wp_walk using hri
           exact ⟨_, rfl, by simpa using hR⟩
   case fin =>
     rintro ⟨b1, b2⟩ s' ⟨hb', rfl, vs, ws, xs', ys', as', bs', hz, hvi, hwi, hlen, cx, cy, hpp, hdp, hR⟩
     simp only at hb'
     subst hb'
     have hv : dlts xs' ys' = decide (items.size < items2.size) := by
       cases hvi with
       | nil =>
         cases hwi with
         | nil =>
           simp only [List.length_nil] at hlen
           exact (decide_eq_false (by omega)).symm
         | cons c u =>
           simp only [List.length_nil, List.length_cons] at hlen
           exact (decide_eq_true (by omega)).symm
       | cons a t =>
         cases hwi with
         | nil =>
           simp only [List.length_nil, List.length_cons] at hlen
           exact (decide_eq_false (by omega)).symm
         | cons c u =>
           rw [List.zip_cons_cons] at hz
           cases hz
     rw [hv] at hR
     wp_walk
     exact ⟨_, rfl, by simpa [Builtin.Tuple.tupleCompareSizes] using hR⟩
   case h =>
     exact ⟨rfl, rfl, items.toList, items2.toList, xs, ys, as, bs, rfl, r1, r2, by omega, hx, hy, hp, Nat.le_refl _, h⟩
end
theorem lt_tuple {xs ys : List PyData} (hx : PyData.canLayAll0 xs = true) (hy : PyData.canLayAll0 ys = true) (hp : ∀ p ∈ xs.zip ys, LtOk p.1 p.2) : LtOk (.tuple xs) (.tuple ys) := fun prog w A E s v u as bs Q r1 r2 hu h => by
 cases r1 with
 | @tuple a o vs c _ _ h1 h2 h3 h4 =>
   cases r2 with
   | @tuple a2 o2 vs2 c2 _ _ k1 k2 k3 k4 =>
     obtain ⟨oc, odd, od, osl⟩ := o
     obtain ⟨oc2, odd2, od2, osl2⟩ := o2
     simp only at h2 h3 k2 k3
     subst h2 h3 k2 k3
     rw [PyData.depth] at hu
     exact richCompare_meets_room (op := .Lt) ⟨_, h1, rfl⟩ ⟨_, k1, rfl⟩ PySem.F.slot_tuple_lt PySem.F.entry_tuple_lt (PySem.F.args_tuple_lt_2 _ _) (tuple_lt_data a a2 vs vs2 c c2 odd odd2 osl osl2 xs ys hx hy hp)
       ⟨h1, k1, ⟨_, _, h4, k4⟩, by omega, show Value.bool (dlts xs ys) ≠ Value.notImplemented ∧ Q (.bool (dlts xs ys)) s from ⟨(fun x => nomatch x), h⟩⟩ (by omega)
end HK
namespace HK
open PySem PySem.Spec PyProof.Rows PySem.W
def OneOk (d e : PyData) : Prop := ∀ (prog : Program) (w : World) (A : Around) (E : Value → Shared → Prop) (s : Shared) (v u : Value) (as bs : List Addr) (b : Bool) (Q : Bool → Shared → Prop), Reads s.heap v d as → Reads s.heap u e bs → A.units + d.depth + 2 < cLine → Q (dlt d e) s → wpAny (model prog w) A (oneLt' b v u) Q E s
theorem lay_mem : ∀ {xs : List PyData}, PyData.canLayAll0 xs = true → ∀ x ∈ xs, x.canLay0 = true
 | x :: xs, h, y, hy => by
   simp only [PyData.canLayAll0, Bool.and_eq_true] at h
   rcases List.mem_cons.mp hy with rfl | hy
   · exact h.1
   · exact lay_mem h.2 y hy
theorem one_false {d e : PyData} (L : LtOk d e) (prog : Program) (w : World) (A : Around) (E : Value → Shared → Prop) (s : Shared) (v u : Value) (as bs : List Addr) (Q : Bool → Shared → Prop) (r1 : Reads s.heap v d as) (r2 : Reads s.heap u e bs) (hu : A.units + d.depth + 2 < cLine) (h : Q (dlt d e) s) : wpAny (model prog w) A (oneLt' false v u) Q E s :=
 kat_one v u (L prog w A E s v u as bs _ r1 r2 hu h)
theorem one_tuple {xs ys : List PyData} (hx : PyData.canLayAll0 xs = true) (hy : PyData.canLayAll0 ys = true) (hp : ∀ p ∈ xs.zip ys, LtOk p.1 p.2) : OneOk (.tuple xs) (.tuple ys) := fun prog w A E s v u as bs b Q r1 r2 hu h => by
 cases b with
 | false => exact one_false (lt_tuple hx hy hp) prog w A E s v u as bs Q r1 r2 hu h
 | true =>
   cases r1 with
   | @tuple a o vs c _ _ h1 h2 h3 h4 =>
     cases r2 with
     | @tuple a2 o2 vs2 c2 _ _ k1 k2 k3 k4 =>
       obtain ⟨oc, odd, od, osl⟩ := o
       obtain ⟨oc2, odd2, od2, osl2⟩ := o2
       simp only at h2 h3 k2 k3
       subst h2 h3 k2 k3
       rw [PyData.depth] at hu
       rw [oneLt'_eq]
       simp only [if_true]
       refine wpAny_bind (wpAny_cRoomFor_or (.inr (by omega)) ?_)
       refine wpAny_bind (wpAny_callSpecialIfBound?_slot ⟨_, h1, rfl⟩ F.slot_tuple_lt (call_meets F.slot_tuple_lt ⟨_, h1, rfl⟩ F.entry_tuple_lt (F.args_tuple_lt_2 _ _) (tuple_lt_data a a2 vs vs2 c c2 odd odd2 osl osl2 xs ys hx hy hp) ⟨h1, k1, ⟨_, _, h4, k4⟩, by omega, ?_⟩))
       exact wpAny_truthy_bool h
theorem lay_tuple {xs : List PyData} (h : (PyData.tuple xs).canLay0 = true) : PyData.canLayAll0 xs = true := by simpa [PyData.canLay0] using h
theorem both : ∀ σ : Sh, (∀ d e, HasSh σ d → HasSh σ e → d.canLay0 = true → e.canLay0 = true → LtOk d e ∧ OneOk d e) ∧ (∀ xs ys, HasSh σ (.tuple xs) → HasSh σ (.tuple ys) → PyData.canLayAll0 xs = true → PyData.canLayAll0 ys = true → ∀ p ∈ xs.zip ys, LtOk p.1 p.2 ∧ OneOk p.1 p.2)
 | .n => by
   refine ⟨fun d e ⟨i, h1⟩ ⟨j, h2⟩ _ _ => ?_, fun xs ys ⟨i, h1⟩ => by cases h1⟩
   subst h1 h2
   have L : LtOk (.int i) (.int j) := fun prog w A E s v u as bs Q r1 r2 hu h => by
     cases r1; cases r2
     exact lt_int (by simpa [dlt] using h)
   refine ⟨L, fun prog w A E s v u as bs b Q r1 r2 hu h => ?_⟩
   cases b with
   | false => exact one_false L prog w A E s v u as bs Q r1 r2 hu h
   | true =>
     cases r1; cases r2
     exact oneLt_int (by simpa [dlt] using h)
 | .t => by
   refine ⟨fun d e ⟨i, h1⟩ ⟨j, h2⟩ _ _ => ?_, fun xs ys ⟨i, h1⟩ => by cases h1⟩
   subst h1 h2
   have L : LtOk (.str i) (.str j) := fun prog w A E s v u as bs Q r1 r2 hu h => by
     cases r1; cases r2
     exact lt_str (by simpa [dlt] using h)
   refine ⟨L, fun prog w A E s v u as bs b Q r1 r2 hu h => ?_⟩
   cases b with
   | false => exact one_false L prog w A E s v u as bs Q r1 r2 hu h
   | true =>
     cases r1; cases r2
     exact oneLt_str (by simpa [dlt] using h)
 | .arr s => by
   obtain ⟨B, _⟩ := both s
   have pr : ∀ xs ys, HasSh (.arr s) (.tuple xs) → HasSh (.arr s) (.tuple ys) → PyData.canLayAll0 xs = true → PyData.canLayAll0 ys = true → ∀ p ∈ xs.zip ys, LtOk p.1 p.2 ∧ OneOk p.1 p.2 := fun xs ys ⟨xs', e1, h1⟩ ⟨ys', e2, h2⟩ c1 c2 p hp => by
     cases e1; cases e2
     obtain ⟨q1, q2⟩ := List.of_mem_zip (show (p.1, p.2) ∈ xs.zip ys from hp)
     exact B p.1 p.2 (h1 _ q1) (h2 _ q2) (lay_mem c1 _ q1) (lay_mem c2 _ q2)
   refine ⟨fun d e hd he cd ce => ?_, pr⟩
   obtain ⟨xs, rfl, h1⟩ := id hd
   obtain ⟨ys, rfl, h2⟩ := id he
   have hp := pr xs ys hd he (lay_tuple cd) (lay_tuple ce)
   exact ⟨lt_tuple (lay_tuple cd) (lay_tuple ce) fun p z => (hp p z).1, one_tuple (lay_tuple cd) (lay_tuple ce) fun p z => (hp p z).1⟩
 | .fnil => by
   refine ⟨fun d e hd he _ _ => ?_, fun xs ys hd _ _ _ p hp => ?_⟩
   · have hd : d = .tuple [] := hd
     have he : e = .tuple [] := he
     subst hd he
     exact ⟨lt_tuple rfl rfl (fun p z => (List.not_mem_nil z).elim), one_tuple rfl rfl (fun p z => (List.not_mem_nil z).elim)⟩
   · have hd : PyData.tuple xs = .tuple [] := hd
     cases hd
     cases hp
 | .fcons a r => by
   obtain ⟨B, _⟩ := both a
   obtain ⟨_, C⟩ := both r
   have pr : ∀ xs ys, HasSh (.fcons a r) (.tuple xs) → HasSh (.fcons a r) (.tuple ys) → PyData.canLayAll0 xs = true → PyData.canLayAll0 ys = true → ∀ p ∈ xs.zip ys, LtOk p.1 p.2 ∧ OneOk p.1 p.2 := fun xs ys ⟨x, xs', e1, h1, g1⟩ ⟨y, ys', e2, h2, g2⟩ c1 c2 p hp => by
     cases e1; cases e2
     simp only [PyData.canLayAll0, Bool.and_eq_true] at c1 c2
     rw [List.zip_cons_cons] at hp
     rcases List.mem_cons.mp hp with rfl | hp
     · exact B x y h1 h2 c1.1 c2.1
     · exact C xs' ys' g1 g2 c1.2 c2.2 p hp
   refine ⟨fun d e hd he cd ce => ?_, pr⟩
   obtain ⟨x, xs, rfl, h1, g1⟩ := id hd
   obtain ⟨y, ys, rfl, h2, g2⟩ := id he
   have hp := pr _ _ hd he (lay_tuple cd) (lay_tuple ce)
   exact ⟨lt_tuple (lay_tuple cd) (lay_tuple ce) fun p z => (hp p z).1, one_tuple (lay_tuple cd) (lay_tuple ce) fun p z => (hp p z).1⟩
section
variable {prog : Program} {w : World} {A : Around} {E : Value → Shared → Prop} {s : Shared}
theorem kat_data {b fin : Bool} {Q : Bool → Shared → Prop} : ∀ (vs us : List Value) (xs ys : List PyData) (as bs : List Addr) (i : Nat), ReadsAll s.heap vs xs as → ReadsAll s.heap us ys bs → PyData.canLayAll0 xs = true → PyData.canLayAll0 ys = true → (∀ p ∈ xs.zip ys, OneOk p.1 p.2) → A.units + PyData.depthAll xs + 2 < cLine → fin = decide (xs.length < ys.length) → Q (dlts xs ys) s → KatLex prog w A b fin Q (vs.zip us) i s
 | [], us, xs, ys, as, bs, i, r1, r2, _, _, _, _, hf, h => by
   cases r1
   rw [List.zip_nil_left]
   refine kat_nil ?_
   cases ys with
   | nil => rw [hf]; exact h
   | cons y ys => rw [hf]; exact h
 | v :: vs, [], xs, ys, as, bs, i, r1, r2, _, _, _, _, hf, h => by
   cases r2
   rw [List.zip_nil_right]
   refine kat_nil ?_
   obtain ⟨d, ds', a, b', rfl, _, _⟩ := reads_cons r1
   rw [hf]
   exact h
 | v :: vs, u :: us, xs, ys, as, bs, i, r1, r2, c1, c2, hp, hu, hf, h => by
   obtain ⟨d, ds, a1, b1, rfl, q1, t1⟩ := reads_cons r1
   obtain ⟨e, es, a2, b2, rfl, q2, t2⟩ := reads_cons r2
   simp only [PyData.canLayAll0, Bool.and_eq_true] at c1 c2
   rw [PyData.depthAll] at hu
   rw [List.zip_cons_cons]
   rw [dlts] at h
   refine kat_cons (SeqAt.eqBoolOverData _ _ _ _ _ _ _ d e _ _ _ q1 q2 c1.1 c2.1 (by omega) ?_)
   cases he : PyData.eqv d e with
   | true =>
     rw [he, if_pos rfl] at h
     refine kat_yes (kat_data vs us ds es b1 b2 (i + 1) t1 t2 c1.2 c2.2 (fun p z => hp p (List.mem_cons_of_mem _ z)) (by omega) ?_ h)
     rw [hf]
     simp
   | false =>
     rw [he, if_neg Bool.false_ne_true] at h
     exact kat_no (hp (d, e) (by simp) prog w A _ s v u a1 a2 _ _ q1 q2 (by show A.units + d.depth + 2 < cLine; omega) h)
def tyS : Sh → String
 | .n => "int"
 | .t => "str"
 | _ => "tuple"
def hdS : Sh → Sh
 | .arr s => s
 | .fcons a _ => a
 | s => s
theorem hd_sh : ∀ {σ : Sh} {x : PyData} {xs : List PyData}, HasSh σ (.tuple (x :: xs)) → HasSh (hdS σ) x
 | .n, _, _, ⟨_, e⟩ => by cases e
 | .t, _, _, ⟨_, e⟩ => by cases e
 | .arr s, _, _, ⟨_, e, h⟩ => by cases e; exact h _ (by simp)
 | .fnil, _, _, e => by
   have e : PyData.tuple _ = PyData.tuple [] := e
   cases e
 | .fcons a r, _, _, ⟨_, _, e, h, _⟩ => by cases e; exact h
theorem look_tup {M : Model} {h : Heap} {b : Addr} {o : Obj} (h1 : h.get? b = some o) (h2 : o.cls = .type "tuple") : Looks M h (typeOf (.ref b)) (.type "tuple") := by
 have := (show Looks M h (typeOf (.ref b)) o.cls from (Looks.ld h1).andThen .now)
 rw [h2] at this
 exact this
theorem look_sh {M : Model} {h : Heap} : ∀ {σ : Sh} {d : PyData} {v : Value} {as : List Addr}, HasSh σ d → Reads h v d as → Looks M h (typeOf v) (.type (tyS σ))
 | .n, _, _, _, ⟨_, e⟩, r => by subst e; cases r; exact .now
 | .t, _, _, _, ⟨_, e⟩, r => by subst e; cases r; exact .now
 | .arr s, _, _, _, ⟨_, e, _⟩, r => by
   subst e
   cases r with
   | tuple h1 h2 h3 h4 => exact look_tup h1 h2
 | .fnil, _, _, _, e, r => by
   have e : _ = PyData.tuple [] := e
   subst e
   cases r with
   | tuple h1 h2 h3 h4 => exact look_tup h1 h2
 | .fcons _ _, _, _, _, ⟨_, _, e, _, _⟩, r => by
   subst e
   cases r with
   | tuple h1 h2 h3 h4 => exact look_tup h1 h2
def TupS (σ : Sh) (h : Heap) (v : Value) : Prop := ∃ b ds as, v = .ref b ∧ Reads h (.ref b) (.tuple ds) as ∧ HasSh σ (.tuple ds)
theorem firsts_sh {M : Model} {σ : Sh} : ∀ (vs : List Value), (∀ v ∈ vs, TupS σ s.heap v) → ∃ fs : List (Option Value), fs.length = vs.length ∧ (∀ f, some f ∈ fs → Looks M s.heap (typeOf f) (.type (tyS (hdS σ)))) ∧ ∀ (E : Value → Shared → Prop) (Q : List (Option Value) → Shared → Prop), Q fs s → wpAny M A (vs.mapM firstOfTuple') Q E s
 | [], _ => ⟨[], rfl, (fun f z => (List.not_mem_nil z).elim), fun E Q h => by rw [List.mapM_nil]; exact wpAny_pure h⟩
 | v :: vs, h => by
   obtain ⟨fs, h1, h2, h3⟩ := firsts_sh (M := M) vs fun u z => h u (List.mem_cons_of_mem _ z)
   obtain ⟨b, ds, as, rfl, r, hs⟩ := h v (by simp)
   cases r with
   | @tuple _ o items c _ _ k1 k2 k3 k4 =>
     refine ⟨items[0]? :: fs, by simp [h1], fun f z => ?_, fun E Q q => ?_⟩
     · rcases List.mem_cons.mp z with z | z
       · cases hv : items.toList with
         | nil =>
           rw [← Array.getElem?_toList, hv] at z
           cases z
         | cons i its =>
           rw [hv] at k4
           obtain ⟨d, ds', a1, b1, rfl, q1, q2⟩ := reads_cons k4
           rw [← Array.getElem?_toList, hv] at z
           cases z
           exact look_sh (hd_sh hs) q1
       · exact h2 f z
     · rw [List.mapM_cons]
       refine wpAny_bind ?_
       rw [kas_first_eq]
       refine wpAny_bind (Looks.here (show Looks M s.heap (typeOf (.ref b)) o.cls from (Looks.ld k1).andThen .now) ?_)
       rw [k2, if_neg (by first | decide | simp)]
       refine wpAny_bind (listItems_at k1 k3 (wpAny_pure ?_))
       exact wpAny_bind (h3 _ _ (wpAny_pure q))
theorem kind_sh {M : Model} {σ : Sh} {vs : List Value} (h : ∀ v ∈ vs, TupS σ s.heap v) (h2 : 2 ≤ vs.length) : ∃ kd : SortKind, (kd = tuples' true ∨ kd = tuples' false ∨ kd = general' ∨ kd = oneType') ∧ ∀ (E : Value → Shared → Prop) (Q : SortKind → Shared → Prop), Q kd s → wpAny M A (keyKind' vs.toArray) Q E s := by
 obtain ⟨fs, l1, l2, l3⟩ := firsts_sh (M := M) (A := A) vs h
 have beqT : ∀ T : Value, (∃ x, T = .type x) → (T == T) = true := fun T ⟨x, e⟩ => by subst e; simp
 by_cases ha : fs.toArray.all (fun x => x.isSome) = true
 · refine ⟨tuples' (Value.type (tyS (hdS σ)) != Value.type "tuple"), ?_, fun E Q q => ?_⟩
   · cases (Value.type (tyS (hdS σ)) != Value.type "tuple")
     · exact .inr (.inl rfl)
     · exact .inl rfl
   · rw [kat_kind_eq, List.mapM_toArray, map_eq_pure_bind]
     refine wpAny_bind (wpAny_bind (l3 _ _ (wpAny_pure ?_)))
     rw [if_pos ha]
     refine wpAny_bind (wpAny_rule ?_)
     have hfm : (fs.toArray.filterMap id) = (fs.filterMap id).toArray := by simp
     have hlen : 0 < (fs.filterMap id).length := by
       cases fs with
       | nil => simp at l1; omega
       | cons f fr =>
         cases f with
         | none => simp at ha
         | some f => simp
     rw [hfm, oneTypeOnly'_eq, List.mapM_toArray, map_eq_pure_bind]
     refine wpAny_bind (wpAny_bind (wpAny_bind (kas_mapM (r := Value.type (tyS (hdS σ))) _ (fun v hv Q' hq => (l2 v (by simpa using hv)).here hq) (wpAny_pure ?_))))
     generalize fs.filterMap id = gs at hlen ⊢
     obtain ⟨g, gr, rfl⟩ : ∃ g gr, gs = g :: gr := by
       match gs, hlen with
       | g :: gr, _ => exact ⟨g, gr, rfl⟩
     have hall2 : ((List.map (fun _ => Value.type (tyS (hdS σ))) (g :: gr)).toArray.all fun x => x == Value.type (tyS (hdS σ))) = true := by
       simp only [List.all_toArray, List.all_map, List.all_eq_true]
       intro _ _
       exact beqT _ ⟨_, rfl⟩
     have h0 : (List.map (fun _ => Value.type (tyS (hdS σ))) (g :: gr)).toArray[0]? = some (Value.type (tyS (hdS σ))) := by simp
     rw [h0]
     simp only [hall2, if_true]
     exact wpAny_pure (wpAny_pure q)
 · by_cases hf : (fs.toArray[0]?.bind id).isSome = true
   · refine ⟨general', .inr (.inr (.inl rfl)), fun E Q q => ?_⟩
     rw [kat_kind_eq, List.mapM_toArray, map_eq_pure_bind]
     refine wpAny_bind (wpAny_bind (l3 _ _ (wpAny_pure ?_)))
     rw [if_neg ha, if_pos hf]
     exact wpAny_pure q
   · refine ⟨oneType', .inr (.inr (.inr rfl)), fun E Q q => ?_⟩
     rw [kat_kind_eq, List.mapM_toArray, map_eq_pure_bind]
     refine wpAny_bind (wpAny_bind (l3 _ _ (wpAny_pure ?_)))
     rw [if_neg ha, if_neg hf]
     rw [oneTypeOnly'_eq, List.mapM_toArray, map_eq_pure_bind]
     refine wpAny_bind (wpAny_bind (wpAny_bind (kas_mapM (r := Value.type "tuple") _ (fun v hv Q' hq => ?_) (wpAny_pure ?_))))
     · obtain ⟨b, ds, as, rfl, r, hs⟩ := h v hv
       cases r with
       | tuple k1 k2 k3 k4 =>
         exact (look_tup k1 k2).here hq
     · obtain ⟨v₁, rest, rfl⟩ : ∃ v₁ rest, vs = v₁ :: rest := by
         match vs, h2 with
         | v₁ :: rest, _ => exact ⟨v₁, rest, rfl⟩
       have hall2 : ((List.map (fun _ => Value.type "tuple") (v₁ :: rest)).toArray.all fun x => x == Value.type "tuple") = true := by
         simp only [List.all_toArray, List.all_map, List.all_eq_true]
         intro _ _
         exact beqT _ ⟨_, rfl⟩
       have h0 : (List.map (fun _ => Value.type "tuple") (v₁ :: rest)).toArray[0]? = some (Value.type "tuple") := by simp
       rw [h0]
       simp only [hall2, if_true]
       exact wpAny_pure (wpAny_pure q)
theorem sh_getD {σ : Sh} {kd : List PyData} {d0 : PyData} (h0 : HasSh σ d0) (h : ∀ d ∈ kd, HasSh σ d) (i : Nat) : HasSh σ (kd.getD i d0) := by
 rw [List.getD_eq_getElem?_getD]
 cases e : kd[i]? with
 | none => exact h0
 | some d => exact h d (List.mem_of_getElem? e)
open L6 in
theorem keys_sh {σ : Sh} {kd : List PyData} {vs : List Value} {d0 : PyData} (h0 : HasSh σ d0) (hs : ∀ d ∈ kd, HasSh σ d) (hl : kd.length = vs.length) (la : ∀ d ∈ kd, d.canLay0 = true) (de : ∀ d ∈ kd, d.depth ≤ 8) (hu : A.units + 12 < cLine)
   (hk : ∀ (i : Nat) v d, vs[i]? = some v → kd[i]? = some d → ∃ b ds as, v = .ref b ∧ d = .tuple ds ∧ Reads s.heap (.ref b) d as) : KeysOk prog w A s vs vs (fun a b : { d : PyData // HasSh σ d } => dlt a.1 b.1) (fun i => ⟨kd.getD i d0, sh_getD h0 hs i⟩) := by
 have hk' : ∀ (i : Nat) v, vs[i]? = some v → ∃ b ds as, v = .ref b ∧ kd.getD i d0 = .tuple ds ∧ .tuple ds ∈ kd ∧ Reads s.heap (.ref b) (.tuple ds) as := fun i v e => by
   have hi : i < kd.length := by rw [hl]; exact (List.getElem?_eq_some_iff.mp e).1
   obtain ⟨b, ds, as, e1, e2, r⟩ := hk i v kd[i] e (List.getElem?_eq_getElem hi)
   refine ⟨b, ds, as, e1, ?_, ?_, by rw [← e2]; exact r⟩
   · rw [List.getD_eq_getElem?_getD, List.getElem?_eq_getElem hi]; exact e2
   · rw [← e2]; exact List.getElem_mem hi
 refine ⟨wo_sh σ, fun h2 => ?_⟩
 obtain ⟨kk, c, q⟩ := kind_sh (M := model prog w) (A := A) (σ := σ) (s := s) (vs := vs) (fun v hv => by
   obtain ⟨i, hi⟩ := List.mem_iff_getElem?.mp hv
   obtain ⟨b, ds, as, e1, _, e3, r⟩ := hk' i v hi
   exact ⟨b, ds, as, e1, r, hs _ e3⟩) h2
 refine ⟨kk, q, fun i j x p y q' E Q hi hj h => ?_⟩
 obtain ⟨b, ds, as, rfl, g1, m1, r1⟩ := hk' i x (zip_at rfl hi).1
 obtain ⟨b2, ds2, as2, rfl, g2, m2, r2⟩ := hk' j y (zip_at rfl hj).1
 dsimp only at h
 rw [g1, g2] at h
 have de1 := de _ m1
 rw [PyData.depth] at de1
 have hp := (both σ).2 ds ds2 (hs _ m1) (hs _ m2) (lay_tuple (la _ m1)) (lay_tuple (la _ m2))
 have one : ∀ b' : Bool, wpAny (model prog w) A (oneLt' b' (.ref b) (.ref b2)) Q E s := fun b' => one_tuple (lay_tuple (la _ m1)) (lay_tuple (la _ m2)) (fun p z => (hp p z).1) prog w A E s _ _ as as2 b' Q r1 r2 (by rw [PyData.depth]; omega) h
 have lex : ∀ b' : Bool, wpAny (model prog w) A (keyLt' (tuples' b') (.ref b) (.ref b2)) Q E s := fun b' => by
   cases r1 with
   | tuple k1 k2 k3 k4 =>
     cases r2 with
     | tuple l1 l2 l3 l4 =>
       refine kat_lt k1 k3 l1 l3 (kat_data _ _ ds ds2 _ _ 0 k4 l4 (lay_tuple (la _ m1)) (lay_tuple (la _ m2)) (fun p z => (hp p z).2) (by omega) ?_ h)
       have z1 := SeqAt.ReadsAll.length _ _ _ k4
       have z2 := SeqAt.ReadsAll.length _ _ _ l4
       simp at z1 z2
       rw [z1, z2]
 rcases c with rfl | rfl | rfl | rfl
 · exact lex true
 · exact lex false
 · exact one false
 · exact one true
end
end HK
namespace HK
open PySem PySem.Spec PyProof.Rows PySem.SetTable SX TB
abbrev KeepS (h h' : Heap) : Prop := ∀ b o xs n, h.get? b = some o → o.data = .seq xs n → h'.get? b = some o
theorem readsAll_keep {h h' : Heap} (F : PyData → Prop) (hF : ∀ d, F d → ∀ v as, Reads h v d as → Reads h' v d as) : ∀ {vs : List Value} {ds : List PyData} {as : List Addr}, (∀ d ∈ ds, F d) → ReadsAll h vs ds as → ReadsAll h' vs ds as
 | [], _, _, hd, r => by cases r; exact .nil
 | v :: vs, _, _, hd, r => by
   cases r with
   | cons r1 r2 => exact .cons (hF _ (hd _ (by simp)) _ _ r1) (readsAll_keep F hF (fun d z => hd d (List.mem_cons_of_mem _ z)) r2)
theorem reads_keep {h h' : Heap} (K : KeepS h h') : ∀ (n : Nat) (d : PyData), d.depth ≤ n → hk d = true → ∀ v as, Reads h v d as → Reads h' v d as := by
 intro n
 induction n with
 | zero =>
   intro d hd hk' v as r
   cases r with
   | int i t => exact .int i t
   | str x t => exact .str x t
   | tuple _ _ _ _ => simp [PyData.depth] at hd
   | _ => simp [hk] at hk'
 | succ n ih =>
   intro d hd hk' v as r
   cases r with
   | int i t => exact .int i t
   | str x t => exact .str x t
   | @tuple a o vs c ds as ho hc hdt hr =>
     have hds : hks ds = true := by simpa [hk] using hk'
     rw [PyData.depth] at hd
     exact .tuple (K a o vs c ho hdt) hc hdt (readsAll_keep (fun d => d ∈ ds) (fun d z v as r => ih d (by have := dep_mem z; omega) (hks_mem hds d z) v as r) (fun d z => z) hr)
   | _ => simp [hk] at hk'
structure TupK (k : PyData) : Prop where
 tu : ∃ ds, k = .tuple ds
 ha : hk k = true
 la : k.canLay0 = true
 de : k.depth ≤ 8
 tx : bv k = true → k = .tuple []
theorem TupK.keep {h h' : Heap} {k : PyData} {v : Value} {as : List Addr} (hk' : TupK k) (K : KeepS h h') (r : Reads h v k as) : Reads h' v k as := reads_keep K 8 k hk'.de hk'.ha v as r
theorem reads_obj {h : Heap} {k : PyData} {b : Addr} {as : List Addr} (hk' : TupK k) (r : Reads h (.ref b) k as) : ∃ o xs n, h.get? b = some o ∧ o.data = .seq xs n := by
 obtain ⟨ds, e⟩ := hk'.tu
 subst e
 cases r with
 | tuple h1 h2 h3 h4 => exact ⟨_, _, _, h1, h3⟩
structure Kx (w : World) (h0 : Heap) (Sp : Addr → PyData → Prop) (h : Heap) (a : Addr) (es : Es) (ep : Nat) (t : SetTable) (ks : List PyData) (m : Nat) : Prop extends Sx w h a es ep t where
 el : ∀ (i : Nat) e, es[i]? = some e → ∃ k b as, ks[i]? = some k ∧ e = (hD w k, .ref b) ∧ b ≠ a ∧ Reads h0 (.ref b) k as ∧ Sp b k
 len : ks.length = es.size
 kt : ∀ k ∈ ks, TupK k
 nd : ks.Nodup
 ok : TOk t (ks.map (hD w)) m
 nf : t.tooFull = false
 pn : t.plain = true → ∀ k ∈ ks, bv k = true
section
variable {P : Program} {w : World} {A : Around} {E : Value → Shared → Prop} {s : Shared} {S : Addr} {es : Es} {ep : Nat} {t : SetTable} {ks : List PyData} {m : Nat} {h0 : Heap} {Sp : Addr → PyData → Prop}
theorem seen_no {k : PyData} {b : Addr} {as : List Addr} (hk' : TupK k) (r : Reads s.heap (.ref b) k as) {Q : Bool → Shared → Prop} : ∀ (ys : List Value), (∀ y ∈ ys, ∃ k' b' as', y = .ref b' ∧ TupK k' ∧ Reads s.heap (.ref b') k' as') → Q false s → wpAny (model P w) A (searchCouldBeSeen (.ref b) ys) Q E s := by
 intro ys hy h
 unfold searchCouldBeSeen
 refine wpAny_bind ?_
 refine wpAny_forIn_list _ (fun rest r s' => r.1 = none ∧ s' = s ∧ ∀ y ∈ rest, ∃ k' b' as', y = .ref b' ∧ TupK k' ∧ Reads s.heap (.ref b') k' as') _ ?_ ?_ _ _ ⟨rfl, rfl, hy⟩
 · rintro y rest r' s' ⟨hr', rfl, hall⟩
   obtain ⟨k', b', as', rfl, hk2, r2⟩ := hall y (by simp)
   have nx : ∀ y ∈ rest, ∃ k' b' as', y = .ref b' ∧ TupK k' ∧ Reads s'.heap (.ref b') k' as' := fun y z => hall y (List.mem_cons_of_mem _ z)
   dsimp only
   by_cases hv : ((b == b') || (carriedByValue (.ref b) && carriedByValue (.ref b'))) = true
   · refine wp_t hv ?_
     exact wpAny_pure ⟨rfl, rfl, nx⟩
   · refine wp_f hv ?_
     refine wpAny_bind (quiet_reads 8 k hk'.de hk'.ha _ _ _ _ _ _ r ?_)
     refine wp_f (by decide) ?_
     refine wpAny_bind (quiet_reads 8 k' hk2.de hk2.ha _ _ _ _ _ _ r2 ?_)
     refine wp_f (by decide) ?_
     refine wpAny_bind (class_reads 8 k hk'.de hk'.ha _ _ _ _ _ _ r ?_)
     refine wp_f (by decide) ?_
     refine wpAny_bind (class_reads 8 k' hk2.de hk2.ha _ _ _ _ _ _ r2 ?_)
     refine wp_f (by decide) ?_
     exact wpAny_pure ⟨rfl, rfl, nx⟩
 · rintro ⟨r1, r2⟩ s' ⟨hr', rfl, _⟩
   simp only at hr'
   subst hr'
   exact wpAny_pure h
theorem eqv_key {k k' : PyData} (h : TupK k) (h' : TupK k') : PyData.eqv k k' = true ↔ k = k' := L3.eqv_solid k k' (hk_solid k h.ha) (hk_solid k' h'.ha)
theorem Kx.odd (K : Kx w h0 Sp s.heap S es ep t ks m) : t.gaveWay = false := by
 unfold SetTable.gaveWay
 have h1 := K.ok.mm
 have h2 := K.ok.m3
 have : 2 ^ m = 8 * 2 ^ (m - 3) := by
   rw [show (8 : Nat) = 2 ^ 3 from rfl, ← Nat.pow_add]
   congr 1
   omega
 simp
 omega
theorem Kx.search (K : Kx w h0 Sp s.heap S es ep t ks m) (X : KeepS h0 s.heap) {k : PyData} {b : Addr} {as : List Addr} (hk' : TupK k) (r : Reads s.heap (.ref b) k as) (hu : A.units + 8 < cLine) {N : Nat} (h0 : t.slot (sq t.mask (hD w k) N).j = .empty) (hb : ∀ k', k' < N → t.slot (sq t.mask (hD w k) k').j ≠ .empty) (hN : N < 10 * turns t.mask) {Q : SetFound → Shared → Prop}
   (y : k ∈ ks → Q (.there none) s) (n : (∀ k' < N, ∀ i, t.slot (sq t.mask (hD w k) k').j = .live i → ks[i]? ≠ some k) → Q (.free (sq t.mask (hD w k) N).j false) s) :
   ∀ (fuel c : Nat) (st : Option Probe), N < c + fuel → c ≤ N → st.getD (t.probeStart (hD w k)) = sq t.mask (hD w k) c → (∀ k' < c, ∀ i, t.slot (sq t.mask (hD w k) k').j = .live i → ks[i]? ≠ some k) →
   wpAny (model P w) A (setSearchFrom S (.ref b) (hD w k) true fuel st) Q E s
 | 0, c, st, h1, h2, _, _ => absurd h1 (by omega)
 | fuel + 1, c, st, h1, h2, h3, h4 => by
   unfold setSearchFrom
   refine wpAny_bind (K.state ?_)
   refine wp_f (by rw [K.odd]; exact Bool.false_ne_true) ?_
   rw [h3]
   have hashAt : ∀ (i : Nat) k', ks[i]? = some k' → ((es[i]?.map (·.1)).getD 0 : Int) = hD w k' := fun i k' hi => by
     have hil : i < es.size := by rw [← K.len]; exact (List.getElem?_eq_some_iff.mp hi).1
     obtain ⟨k2, b2, as2, e1, e2, _, _⟩ := K.el i _ (Array.getElem?_eq_getElem hil)
     rw [Array.getElem?_eq_getElem hil, e2]
     rw [hi] at e1
     cases e1
     rfl
   have g := go_sq K.ok.dm (fun i => ((es[i]?.map (·.1)).getD 0 : Int)) (hD w k) N h0 hb (10 * turns t.mask) c (by omega) h2
   rcases g with ⟨j, i, a1, a2, a3, a4, a5, a6⟩ | ⟨a1, a2⟩
   · have gp : t.probe (fun i => ((es[i]?.map (·.1)).getD 0 : Int)) (hD w k) (sq t.mask (hD w k) c) = some (.candidate (sq t.mask (hD w k) j).j i (sq t.mask (hD w k) (j + 1))) := a6
     have il := (live_at a3).1
     rw [K.ok.sz, List.length_map, K.len] at il
     obtain ⟨k2, b2, as2, e1, e2, nb, r2, _⟩ := K.el i _ (Array.getElem?_eq_getElem il)
     have hk2 := K.kt k2 (List.mem_of_getElem? e1)
     replace r2 := hk2.keep X r2
     dsimp only
     split
     · rename_i met he
       have hmet := Option.some.inj (gp.symm.trans he)
       subst hmet
       dsimp only
       have rest : wpAny (model P w) A (do
           let equal ← holding [Value.ref b2] (eqBool (.ref b2) (.ref b))
           let __x ← setState S
           match __x with
             | (es', _, t') =>
               if (true && equal) = true then pure (SetFound.there none)
               else
                 match t'.sameMemory t.moves t.mask with
                 | some same =>
                   match if same = true then t'.slot (sq t.mask (hD w k) j).j else Slot.empty with
                   | Slot.live i' =>
                     match es'[i']? with
                     | some (_, y') => do
                       let __do_lift ← isSame y' (.ref b2)
                       let still ← pure (if __do_lift = true then some i' else none)
                       match still with
                         | none => do
                           rule "set.search.anew"
                           setSearchFrom S (Value.ref b) (hD w k) true fuel none
                         | some i' =>
                           if equal = true then pure (SetFound.there (some i'))
                           else setSearchFrom S (Value.ref b) (hD w k) true fuel (some (sq t.mask (hD w k) (j + 1)))
                     | none => do
                       let still ← pure none
                       match still with
                         | none => do
                           rule "set.search.anew"
                           setSearchFrom S (Value.ref b) (hD w k) true fuel none
                         | some i' =>
                           if equal = true then pure (SetFound.there (some i'))
                           else setSearchFrom S (Value.ref b) (hD w k) true fuel (some (sq t.mask (hD w k) (j + 1)))
                   | x => do
                     let still ← pure none
                     match still with
                       | none => do
                         rule "set.search.anew"
                         setSearchFrom S (Value.ref b) (hD w k) true fuel none
                       | some i' =>
                         if equal = true then pure (SetFound.there (some i'))
                         else setSearchFrom S (Value.ref b) (hD w k) true fuel (some (sq t.mask (hD w k) (j + 1)))
                 | x => unsupported "set.changed-during-lookup:is-the-new-block-at-the-old-address") Q E s := by
         refine wpAny_bind (wpAny_holding (SeqAt.eqBoolOverData _ _ _ _ _ _ _ k2 k _ _ _ r2 r hk2.la hk'.la (by have := hk'.de; omega) ?_))
         refine wpAny_bind (K.state ?_)
         dsimp only
         by_cases ek : k2 = k
         · rw [(eqv_key hk2 hk').mpr ek]
           refine wp_t rfl (wpAny_pure (y ?_))
           rw [← ek]
           exact List.mem_of_getElem? e1
         · have en : PyData.eqv k2 k = false := by
             cases c : PyData.eqv k2 k with
             | false => rfl
             | true => exact absurd ((eqv_key hk2 hk').mp c) ek
           rw [en]
           refine wp_f (by decide) ?_
           have sm : t.sameMemory t.moves t.mask = some true := by
             unfold SetTable.sameMemory
             rw [if_pos (by simp)]
           rw [sm]
           dsimp only
           rw [if_pos rfl, a3]
           dsimp only
           rw [Array.getElem?_eq_getElem il, e2]
           dsimp only
           refine wpAny_bind (wpAny_isSame_ref_self ?_)
           refine wpAny_bind (wpAny_pure ?_)
           rw [if_pos rfl]
           dsimp only
           refine wp_f (by decide) ?_
           refine Kx.search K X hk' r hu h0 hb hN y n fuel (j + 1) _ (by omega) (by omega) rfl fun k' hk3 i' hl => ?_
           by_cases z1 : k' < c
           · exact h4 k' z1 i' hl
           · by_cases z2 : k' = j
             · subst z2
               rw [a3] at hl
               cases hl
               rw [e1]
               exact fun z => ek (Option.some.inj z)
             · obtain ⟨i2, q1, q2⟩ := a5 k' (by omega) (by omega)
               rw [hl] at q1
               cases q1
               exact fun z => q2 (hashAt i' k z)
       have ge : es[i]? = some (hD w k2, Value.ref b2) := by rw [Array.getElem?_eq_getElem il, e2]
       rw [ge]
       split
       · refine wpAny_bind (seen_no hk' r _ (fun y' hy => ?_) ?_)
         · obtain ⟨e, he', rfl⟩ := List.mem_map.mp hy
           have := (Array.mem_toList_iff.mp he')
           obtain ⟨i3, hi3⟩ := Array.mem_iff_getElem?.mp (Array.mem_filter.mp this).1
           obtain ⟨k3, b3, as3, q1, q2, _, q3, _⟩ := K.el i3 e hi3
           exact ⟨k3, b3, as3, by rw [q2], K.kt k3 (List.mem_of_getElem? q1), (K.kt k3 (List.mem_of_getElem? q1)).keep X q3⟩
         · refine wp_f (by decide) ?_
           exact rest
       · exact rest
     · rename_i he
       exact (he _ gp).elim
   · have gp : t.probe (fun i => ((es[i]?.map (·.1)).getD 0 : Int)) (hD w k) (sq t.mask (hD w k) c) = some (.empty (sq t.mask (hD w k) N).j none) := a2
     dsimp only
     split
     · rename_i met he
       have hmet := Option.some.inj (gp.symm.trans he)
       subst hmet
       dsimp only
       refine wpAny_pure (n fun k' hk3 i' hl => ?_)
       by_cases z1 : k' < c
       · exact h4 k' z1 i' hl
       · obtain ⟨i2, q1, q2⟩ := a1 k' (by omega) hk3
         rw [hl] at q1
         cases q1
         exact fun z => q2 (hashAt i' k z)
     · rename_i he
       exact (he _ gp).elim
end
end HK
namespace HK
open PySem PySem.Spec PyProof.Rows PySem.SetTable SX TB
section
variable {P : Program} {w : World} {A : Around} {E : Value → Shared → Prop} {s : Shared} {S : Addr} {es : Es} {ep : Nat} {t : SetTable} {ks : List PyData} {m : Nat} {h0 : Heap} {Sp : Addr → PyData → Prop}
theorem Kx.keep {h h' : Heap} (K : Kx w h0 Sp h S es ep t ks m) (kS : ∀ o, h.get? S = some o → h'.get? S = some o) : Kx w h0 Sp h' S es ep t ks m :=
 ⟨K.toSx.keep kS, K.el, K.len, K.kt, K.nd, K.ok, K.nf, K.pn⟩
theorem keepS_same {h h' : Heap} {o : Obj} (ho : h.get? S = some o) (hd : o.data = .set es ep t) (sb : Heap.SameBut S h h') : KeepS h h' := fun b o' xs n e d => by
 have nb : b ≠ S := fun z => by
   subst z
   rw [ho] at e
   cases e
   rw [hd] at d
   cases d
 exact (sb.2 b nb).trans e
theorem plain_one {ks : List PyData} (kt : ∀ k ∈ ks, TupK k) (nd : ks.Nodup) {t : SetTable} (pn : t.plain = true → ∀ k ∈ ks, bv k = true) (hl : 1 < ks.length) : t.plain = false := by
 cases c : t.plain with
 | false => rfl
 | true =>
   exfalso
   have h0 := List.getElem_mem (l := ks) (n := 0) (by omega)
   have h1 := List.getElem_mem (l := ks) (n := 1) hl
   have e0 := (kt _ h0).tx (pn c _ h0)
   have e1 := (kt _ h1).tx (pn c _ h1)
   have := (List.getElem_inj (i := 0) (j := 1) (h₀ := by omega) (h₁ := hl) nd).mp (e0.trans e1.symm)
   omega
theorem kx_put (K : Sx w s.heap S es ep t) {es' : Es} {t' : SetTable} {ks' : List PyData} {m' : Nat} (el : ∀ (i : Nat) e, es'[i]? = some e → ∃ k b as, ks'[i]? = some k ∧ e = (hD w k, .ref b) ∧ b ≠ S ∧ Reads h0 (.ref b) k as ∧ Sp b k) (len : ks'.length = es'.size) (kt : ∀ k ∈ ks', TupK k) (nd : ks'.Nodup) (ok : TOk t' (ks'.map (hD w)) m') (pn : t'.plain = true → ∀ k ∈ ks', bv k = true) (led : t'.led = !byT w) (lt : es'.size < scanBound)
   {Q : Unit → Shared → Prop} (h : ∀ h', Heap.SameBut S s.heap h' → Sx w h' S es' (ep + 1) t' → (t'.tooFull = false → Kx w h0 Sp h' S es' (ep + 1) t' ks' m') → Q () { s with heap := h' }) : wpAny (model P w) A (storeSet S es' t') Q E s := by
 obtain ⟨o, ho, hx, hd⟩ := K.at_
 have sb : Heap.SameBut S s.heap (s.heap.update S (Obj.putSet es' t')) := .update ..
 have fit : t'.fits es'.size = true := by
   have h1 := ok.sz
   have h2 := ok.rm
   rw [List.length_map, len] at h1
   simp [SetTable.fits, SetTable.fill, ok.dm, h1]
   omega
 have sx : Sx w (s.heap.update S (Obj.putSet es' t')) S es' (ep + 1) t' := by
   refine ⟨⟨{ o with data := .set es' (ep + 1) t' }, ?_, hx, rfl⟩, lt, fit, led, fun z => plain_one kt nd pn (by omega)⟩
   have := Heap.get?_update_self (Obj.putSet es' t') ho (by rw [putSet_of es' t' hd]; rfl)
   rw [putSet_of es' t' hd] at this
   exact this
 refine wpAny_storeSet_of ho hd (h _ sb sx fun nf => ?_) (fits_of_scanBound lt)
 exact ⟨sx, el, len, kt, nd, ok, nf, pn⟩
theorem ins_map {α β : Type} (f : α → β) (p : Nat) (x : α) (l : List α) : (ins p x l).map f = ins p (f x) (l.map f) := by
 unfold ins
 rw [List.map_append, List.map_cons, List.map_take, List.map_drop]
theorem ins_perm {α : Type} (p : Nat) (x : α) (l : List α) : (ins p x l).Perm (x :: l) := by
 unfold ins
 refine List.perm_middle.trans (.cons x ?_)
 rw [List.take_append_drop]
theorem Kx.add (K : Kx w h0 Sp s.heap S es ep t ks m) (X : KeepS h0 s.heap) {k : PyData} {b : Addr} {as : List Addr} (hk' : TupK k) (r0 : Reads h0 (.ref b) k as) (sp : Sp b k) (hu : A.units + 8 < cLine) (hz : es.size < 999) {Q : Bool → Shared → Prop}
   (h : ∀ c h' es' ep' t' ks' m', Heap.SameBut S s.heap h' → Kx w h0 Sp h' S es' ep' t' ks' m' → (∀ x, x ∈ ks' ↔ x ∈ ks ∨ x = k) → es'.size ≤ es.size + 1 → Q c { s with heap := h' }) :
   wpAny (model P w) A (setAddHashed S (.ref b) (hD w k)) Q E s := by
 have r := hk'.keep X r0
 obtain ⟨N, n1, n2, n3⟩ := K.ok.free (hD w k)
 have nb : b ≠ S := fun z => by
   obtain ⟨o, xs, n, h1, h2⟩ := reads_obj hk' r
   obtain ⟨o', h3, _, h4⟩ := K.at_
   rw [z, h3] at h1
   cases h1
   rw [h4] at h2
   cases h2
 unfold setAddHashed setAddHashedIn
 refine wpAny_holding (wpAny_bind (K.state ?_))
 dsimp only
 rw [if_neg (by simp [byScan, Value.scannable])]
 have mk1 := K.ok.mm
 have mk2 : 2 ^ m ≤ 2 ^ 13 := Nat.pow_le_pow_right (by decide) K.ok.mb
 refine wpAny_bind ?_
 unfold setSearch
 refine K.search X hk' r hu n2 n3 n1 (fun hm => ?_) (fun hn => ?_) 100000 0 none (by unfold turns at n1; omega) (Nat.zero_le _) rfl (fun k' z => absurd z (Nat.not_lt_zero _))
 · exact wpAny_pure (h false s.heap es ep t ks m (.refl ..) K (fun x => ⟨.inl, fun z => z.elim id fun z => z ▸ hm⟩) (Nat.le_succ _))
 · have km : k ∉ ks := fun hm => by
     obtain ⟨i, hi⟩ := List.mem_iff_getElem?.mp hm
     obtain ⟨n, q1, q2⟩ := K.ok.rc i (hD w k) (by rw [List.getElem?_map, hi]; rfl)
     have il : i < t.place.size := by
       rw [K.ok.sz, List.length_map]
       exact (List.getElem?_eq_some_iff.mp hi).1
     have sl := slot_live K.ok.inc il
     rw [← q1] at sl
     by_cases c : n < N
     · exact hn n c i sl hi
     · by_cases c2 : N < n
       · exact q2 N c2 n2
       · obtain rfl : n = N := by omega
         rw [n2] at sl
         cases sl
   refine wpAny_bind (K.state ?_)
   have psz : t.place.size = es.size := by rw [K.ok.sz, List.length_map, K.len]
   have tf : t.place.size * 5 < t.mask * 3 := by
     have := K.nf
     simp [SetTable.tooFull, SetTable.fill, K.ok.dm] at this
     omega
   have m8 : 2 ^ 3 ≤ 2 ^ m := Nat.pow_le_pow_right (by decide) K.ok.m3
   have hmask : t.place.size + 1 ≤ t.mask := by omega
   have put := fun b => K.ok.put (h := hD w k) (N := N) hmask n2 n3 (sq_le _ N).1 b
   generalize hj : (sq t.mask (hD w k) N).j = j at *
   generalize hp : below t.place j = p at *
   have pls : (t.put j).1.led = t.led ∧ (t.put j).1.plain = t.plain := ⟨rfl, rfl⟩
   have pp : (t.put j).2 = p := (put true).2
   have hpl : p ≤ es.size := by
     rw [← hp, ← psz]
     exact (below_at K.ok.inc j).1
   have el1 : ∀ (i : Nat) e, (insertAt es p (hD w k, Value.ref b))[i]? = some e → ∃ k' b' as', (ins p k ks)[i]? = some k' ∧ e = (hD w k', .ref b') ∧ b' ≠ S ∧ Reads h0 (.ref b') k' as' ∧ Sp b' k' := fun i e he => by
     rw [← Array.getElem?_toList, insA, ins_get (by simpa using hpl)] at he
     rw [ins_get (by rw [K.len]; exact hpl)]
     split at he
     · rename_i c
       rw [if_pos c]
       exact K.el i e (by rw [← Array.getElem?_toList]; exact he)
     · rename_i c
       rw [if_neg c]
       split at he
       · rename_i c2
         rw [if_pos c2]
         cases he
         exact ⟨k, b, as, rfl, rfl, nb, r0, sp⟩
       · rename_i c2
         rw [if_neg c2]
         exact K.el (i - 1) e (by rw [← Array.getElem?_toList]; exact he)
   have pk := ins_perm p k ks
   have len1 : (ins p k ks).length = (insertAt es p (hD w k, Value.ref b)).size := by
     rw [ins_len, ← Array.length_toList, insA, ins_len, K.len, Array.length_toList]
   have kt1 : ∀ x ∈ ins p k ks, TupK x := fun x hx => by
     rcases List.mem_cons.mp (pk.mem_iff.mp hx) with rfl | hx
     · exact hk'
     · exact K.kt x hx
   have nd1 : (ins p k ks).Nodup := pk.nodup_iff.mpr (List.nodup_cons.mpr ⟨km, K.nd⟩)
   have mem1 : ∀ x, x ∈ ins p k ks ↔ x ∈ ks ∨ x = k := fun x => by rw [pk.mem_iff, List.mem_cons, or_comm]
   have sz1 : (insertAt es p (hD w k, Value.ref b)).size = es.size + 1 := by rw [← len1, ins_len, K.len]
   generalize hes1 : insertAt es p (hD w k, Value.ref b) = es1 at *
   generalize hks1 : ins p k ks = ks1 at *
   have fin : ∀ b' : Bool, (b' = true → ∀ x ∈ ks1, bv x = true) → wpAny (model P w) A (do
       storeSet S es1 { (t.put j).1 with plain := b' }
       if (!false && ({ (t.put j).1 with plain := b' } : SetTable).tooFull) = true then do
           setRelay S (SetTable.grown (es.size + 1))
           pure true
         else pure true) Q E s := fun b' hb' => by
     have ok1 := (put b').1
     rw [← ins_map, hks1] at ok1
     refine wpAny_bind (kx_put K.toSx el1 len1 kt1 nd1 ok1 hb' (pls.1.trans K.led) (by rw [sz1]; unfold scanBound; omega) fun h1 sb1 sx1 mk => ?_)
     cases hw : ({ (t.put j).1 with plain := b' } : SetTable).tooFull with
     | false =>
       refine wp_f (by decide) (wpAny_pure (h true h1 _ _ _ _ _ sb1 (mk hw) mem1 (Nat.le_of_eq sz1)))
     | true =>
       refine wp_t rfl ?_
       generalize ht1 : ({ (t.put j).1 with plain := b' } : SetTable) = t1 at *
       obtain ⟨t2, order, m2, z1, z2, z3, z4, z5, z6, z7⟩ := relaid_ok t1 es1 (by omega)
       obtain ⟨m', y1, y2, y3, y4⟩ := above (n := es1.size * 4) (by omega)
       have gr : SetTable.grown (es.size + 1) = es1.size * 4 := by
         unfold SetTable.grown
         rw [if_neg (by omega), sz1]
       rw [gr]
       unfold setRelay
       refine wpAny_bind (wpAny_bind (Sx.state (s := { s with heap := h1 }) sx1 ?_))
       refine wp_f (by
         rw [y2, sizeLine_eq]
         have : 2 ^ m' ≤ 8000 := by
           rcases y4 with rfl | y4
           · decide
           · omega
         omega) ?_
       dsimp only
       rw [z1]
       have z3' : (order.filterMap (es1[·]?)).size = es1.size := by
         rw [← Array.length_toList, z3.length_eq, Array.length_toList]
       refine wpAny_bind (m := (do
         if ((order.filterMap (es1[·]?)).size != es1.size) = true then unsupported "internal:set-table-lost-an-element"
         pure (order.filterMap (es1[·]?), t2))) (wp_f (by simp [z3']) (wpAny_pure ?_))
       have isE : ∀ i ∈ order.toList, (es1[i]?).isSome = true := fun i hi => by
         have := List.mem_range.mp (z7.mem_iff.mp hi)
         simp [this]
       have isK : ∀ i ∈ order.toList, (ks1[i]?).isSome = true := fun i hi => by
         have := List.mem_range.mp (z7.mem_iff.mp hi)
         simp
         omega
       have e2 : (order.filterMap (es1[·]?)).toList = order.toList.filterMap (es1[·]?) := by simp
       have p2 : (order.toList.filterMap (ks1[·]?)).Perm ks1 := by
         have := z7.filterMap (fun i => ks1[i]?)
         rw [← len1] at this
         rw [List.filterMap_getElem?_range_length] at this
         exact this
       obtain ⟨o1, ho1, hx1, hd1⟩ := K.at_
       have ke : KeepS s.heap h1 := keepS_same ho1 hd1 sb1
       have el2 : ∀ (i : Nat) e, (order.filterMap (es1[·]?))[i]? = some e → ∃ k' b' as', (order.toList.filterMap (ks1[·]?))[i]? = some k' ∧ e = (hD w k', .ref b') ∧ b' ≠ S ∧ Reads h0 (.ref b') k' as' ∧ Sp b' k' := fun i e he => by
         rw [← Array.getElem?_toList, e2, fm_get isE] at he
         rw [fm_get isK]
         cases eq : order.toList[i]? with
         | none => rw [eq] at he; cases he
         | some i' =>
           rw [eq] at he
           obtain ⟨k', b2, as', q1, q2, q3, q4⟩ := el1 i' e he
           exact ⟨k', b2, as', q1, q2, q3, q4⟩
       have hm2 : (order.filterMap (es1[·]?)).toList.map (·.1) = (order.toList.filterMap (ks1[·]?)).map (hD w) := by
         refine List.ext_getElem? fun i => ?_
         rw [List.getElem?_map, List.getElem?_map, e2, fm_get isE, fm_get isK]
         cases eq : order.toList[i]? with
         | none => rfl
         | some i' =>
           have hi' : i' < es1.size := List.mem_range.mp (z7.mem_iff.mp (List.mem_of_getElem? eq))
           obtain ⟨k', b2, as', q1, q2, q3, q4⟩ := el1 i' _ (Array.getElem?_eq_getElem hi')
           show Option.map _ es1[i']? = Option.map _ ks1[i']?
           rw [Array.getElem?_eq_getElem hi', q2, q1]
           rfl
       rw [hm2] at z2
       refine kx_put (s := { s with heap := h1 }) sx1 el2 (by rw [p2.length_eq, len1, z3']) (fun x hx => kt1 x (p2.mem_iff.mp hx)) (p2.nodup_iff.mpr nd1) z2 (fun pl x hx => hb' (by rw [z5] at pl; rw [← ht1] at pl; exact pl) x (p2.mem_iff.mp hx)) (by rw [z4, ← ht1]; exact pls.1.trans K.led) (by rw [z3', sz1]; unfold scanBound; omega) fun h2 sb2 sx2 mk2 => ?_
       exact wpAny_pure (h true h2 _ _ _ _ _ (sb1.trans sb2) (mk2 z6) (fun x => by rw [p2.mem_iff]; exact mem1 x) (by rw [z3', sz1]; exact Nat.le_refl _))
   dsimp only
   rw [pp, hes1]
   split
   · rename_i hpt
     refine wpAny_bind (byv_reads 8 k hk'.de hk'.ha _ _ _ _ _ _ r ?_)
     cases hbv : bv k with
     | true =>
       refine fin t.plain fun hp' x hx => ?_
       rcases (mem1 x).mp hx with hx | rfl
       · exact K.pn hp' x hx
       · exact hbv
     | false => exact fin false fun z => by cases z
   · rename_i hpt
     refine wpAny_bind (wpAny_pure ?_)
     exact fin t.plain fun hp' => absurd hp' hpt
end
end HK
namespace HK
open PySem PySem.Spec PyProof.Rows PySem.SetTable SX TB
section
variable {P : Program} {w : World} {A : Around} {R : Result → Shared → Prop} {I : Addr} {fp wr : List Addr} {G : Array GenState → Array GenState → Prop} {n : Nat} {Pv : Nat → Value → Prop} {St : Nat → Shared → Prop} {Sp : Addr → PyData → Prop}
theorem loop_kx (W : WalksS P w A.in1 I fp wr G n Pv St) (S : Addr) (hS : S ∉ fp) (h0 : Heap) (hn : ∀ b o, h0.get? b = some o → b ∉ S :: wr) (val : Nat → PyData) (hv : ∀ i, i < n → TupK (val i)) (hval : ∀ i v, i < n → Pv i v → ∃ b as, v = .ref b ∧ Reads h0 (.ref b) (val i) as ∧ Sp b (val i)) (hu : A.units + 9 < cLine) (hb : n < 999) :
   ∀ (m i : Nat) (s : Shared) (es : Es) (ep : Nat) (t : SetTable) (ks : List PyData) (mm : Nat), n - i = m → i ≤ n → St i s → Ext h0 s.heap → Kx w h0 Sp s.heap S es ep t ks mm → (∀ x, x ∈ ks ↔ ∃ j, j < i ∧ val j = x) → es.size ≤ i →
     (∀ s' es' ep' t' ks' mm', Moved (S :: wr) G s s' → Kx w h0 Sp s'.heap S es' ep' t' ks' mm' → (∀ x, x ∈ ks' ↔ ∃ j, j < n ∧ val j = x) → R (.ok (.ret .none)) s') →
     codeAny (model P w) A (.builtin "set.update.loop" ⟨[.ref S, .ref I], []⟩) R s := by
 have nw : S ∉ wr := fun z => hS (W.sub _ z)
 have up : ∀ b ∈ wr, b ∈ S :: wr := fun b z => List.mem_cons_of_mem _ z
 intro m
 induction m with
 | zero =>
   intro i s es ep t ks mm hm hi st X T hk _ k
   obtain rfl : i = n := by omega
   refine codeAny_builtin F.entry_set_update_loop ?_
   rw [Around.under_plainId F.plain_set_update_loop _]
   refine wpAny_bind (W.done s _ _ st fun s' mv => wpAny_pure ?_)
   exact k s' es ep t ks mm (mv.mono up) (T.keep fun o e => mv.heap S o nw e) hk
 | succ m ih =>
   intro i s es ep t ks mm hm hi st X T hk hz k
   have hlt : i < n := by omega
   refine codeAny_builtin F.entry_set_update_loop ?_
   rw [Around.under_plainId F.plain_set_update_loop _]
   refine wpAny_bind (W.item i s _ _ hlt st fun v s' pv st' mv => ?_)
   obtain ⟨b, as, rfl, hr, hsp⟩ := hval i v hlt pv
   have T1 := T.keep fun o e => mv.heap S o nw e
   have X1 : Ext h0 s'.heap := fun b o e => mv.heap b o (fun z => hn b o e (up b z)) (X b o e)
   have kp : KeepS h0 s'.heap := fun b o _ _ e _ => X1 b o e
   refine wpAny_bind (m := holding [Value.ref b] (setAdd S (.ref b))) (wpAny_holding ?_)
   unfold setAdd
   have hvi := hv i hlt
   have hde := hvi.de
   refine wpAny_holding (wpAny_bind (hash_reads 8 (val i) hvi.de hvi.ha _ _ _ _ _ _ (by show A.units + 1 + (val i).depth < cLine; omega) (hvi.keep kp hr) ?_))
   refine Kx.add (s := { s' with toks := s'.toks + dr (val i) }) T1 kp hvi hr hsp (by show A.units + 1 + 8 < cLine; omega) (by omega) fun c h' es' ep' t' ks' m' sb T2 hk' hz' => ?_
   have X2 : Ext h0 h' := fun b o e => (sb.2 b (fun z => hn b o e (z ▸ List.mem_cons_self))).trans (X1 b o e)
   refine wpAny_pure ⟨plainId_quiet F.plain_set_update_loop _, ih (i + 1) _ es' ep' t' ks' m' (by omega) hlt (W.frame _ s' _ _ st' (Nat.le_add_right _ _) fun b hb o e => ?_) X2 T2 (fun x => ?_) (by omega) fun s'' e2 p2 t2 k2 m2 mv2 T3 hk3 => ?_⟩
   · rw [sb.2 b (fun z : b = S => hS (z ▸ hb))]
     exact e
   · rw [hk', hk]
     constructor
     · rintro (⟨j, h1, h2⟩ | rfl)
       · exact ⟨j, by omega, h2⟩
       · exact ⟨i, by omega, rfl⟩
     · rintro ⟨j, h1, h2⟩
       by_cases hj : j = i
       · subst hj
         exact .inr h2.symm
       · exact .inl ⟨j, by omega, h2⟩
   · refine k s'' e2 p2 t2 k2 m2 (.trans W.gtrans ((mv.mono up).then_heap (Nat.le_add_right _ _) fun b o hb e => ?_) mv2) T3 hk3
     rw [sb.2 b (fun z : b = S => hb (z ▸ List.mem_cons_self))]
     exact e
end
section
variable {P : Program} {w : World} {A : Around} {E : Value → Shared → Prop} {s : Shared} {Sp : Addr → PyData → Prop}
theorem kx_nil {h0 h : Heap} {a : Addr} (e : h.get? a = some (eObj w)) : Kx w h0 Sp h a #[] 0 (.fresh 0 0 (!byT w)) [] 3 :=
 ⟨⟨⟨_, e, ⟨rfl, rfl, rfl⟩, rfl⟩, by decide, rfl, rfl, fun z => absurd z (by decide)⟩, (fun i e z => by simp at z), rfl, (fun k z => (List.not_mem_nil z).elim), List.Pairwise.nil,
   ⟨rfl, by decide, by decide, rfl, rfl, fun i k _ z => absurd z (Nat.not_lt_zero _), fun i z => absurd z (Nat.not_lt_zero _), Nat.zero_le _, (fun i h z => by simp at z)⟩, rfl, fun _ k z => (List.not_mem_nil z).elim⟩
theorem call_setK {v : Value} {T : String} {n : Nat} {Pv : Nat → Value → Prop} {val : Nat → PyData} {Q : Value → Shared → Prop} (hh : A.handled = none) (hT : ∀ s₁ : Shared, Ext s.heap s₁.heap → s₁.TypeIs v T)
   (h1 : isSubtype (.type T) (.type "set") = pure false) (h2 : isSubtype (.type T) (.type "frozenset") = pure false) (h3 : (Value.type T == Value.type "dict") = false) (src : Src P w s.heap v n Pv)
   (hv : ∀ i, i < n → TupK (val i)) (hval : ∀ i v, i < n → Pv i v → ∃ b as, v = .ref b ∧ Reads s.heap (.ref b) (val i) as ∧ Sp b (val i)) (hu : A.units + 64 < cLine) (hb : n < 999)
   (k : ∀ h' tk es ep t ks m, Kx w s.heap Sp h' s.heap.objs.size es ep t ks m → (∀ x, x ∈ ks ↔ ∃ j, j < n ∧ val j = x) → Ext s.heap h' → Q (.ref s.heap.objs.size) { s with heap := h', toks := tk }) :
   wpAny (model P w) A (call (.type "set") [v]) Q E s := by
 obtain ⟨c, tl, hmro⟩ := F.called_set.mro
 have hmade := F.called_set.made
 have hsub := F.called_set.sub
 refine wpAny_call (codeAny_of_tree ?_)
 show wpAny _ _ (callAny (.type "set") _) _ _ _
 refine wpAny_pure ⟨Code.quiet_builtin _ (by decide +kernel), codeAny_builtin F.entry_type_call ?_⟩
 rw [Around.under_plain (weight_type_call_type "set" [v] []) rfl]
 have c1 := F.called_set.notType
 have c2 := F.called_set.canCreate
 have c3 := F.typeCall_set_1 v
 repeat (any_goals (first | assumption | wp_step))
 refine codeAny_mono (set_new v (E := E) (Q := fun r s₁ => r = .ref s.heap.objs.size ∧ s₁ = { s with heap := s.heap.push (eObj w) }) ⟨rfl, rfl⟩) fun r s₁ hr => ?_
 cases r with
 | error e => exact hr
 | ok fl =>
   cases fl with
   | ret obj =>
     obtain ⟨rfl, rfl⟩ := hr
     have eS : (s.heap.push (eObj w)).get? s.heap.objs.size = some (eObj w) := Heap.get?_push_size _ rfl
     have hS : Shared.TypeIs { s with heap := s.heap.push (eObj w) } (.ref s.heap.objs.size) "set" := ⟨_, eS, rfl⟩
     have c4 := F.called_set.init.lookup
     have c5 := F.called_set.init.bind (.ref s.heap.objs.size)
     repeat (any_goals (first | assumption | wp_step))
     refine codeAny_mono (codeAny_call_builtin (R := wants (fun r s₂ => r = .none ∧ ∃ h' tk es ep t ks m, s₂ = { s with heap := h', toks := tk } ∧ Kx w s.heap Sp h' s.heap.objs.size es ep t ks m ∧ (∀ x, x ∈ ks ↔ ∃ j, j < n ∧ val j = x) ∧ Ext s.heap h') E) F.called_set.init.plain F.entry_set_init (check_set_init_1 hS ?_)) fun r₂ s₂ hr₂ => ?_
     · have e0 : Ext s.heap (s.heap.push (eObj w)) := fun b o e => Heap.get?_push_of_some _ e
       have hTv := hT { s with heap := s.heap.push (eObj w) } e0
       unfold Builtin.«set.__init__» noKeywords Builtin.Frozenset.updateFrom
       generalize hPI : pyIter = PI
       wp_walk
       subst hPI
       have lt0 : s.heap.objs.size < (s.heap.push (eObj w)).objs.size := by rw [Heap.size_push]; exact Nat.lt_succ_self _
       refine src _ _ _ _ (by simpa using hh) e0 fun I h' fp St W st ex fpb hI => ?_
       refine wpAny_bind (wpAny_runValue ?_)
       have nS : s.heap.objs.size ∉ fp := fun z => by
         rcases fpb _ z with y | y
         · exact Nat.lt_irrefl _ y
         · exact absurd lt0 (Nat.not_lt.mpr y)
       have hn : ∀ b o, s.heap.get? b = some o → b ∉ s.heap.objs.size :: [I] := fun b o e z => by
         have hbl := Heap.lt_size e
         rcases List.mem_cons.mp z with z | z
         · exact Nat.ne_of_lt hbl z
         · rw [List.mem_singleton.mp z] at hbl
           exact absurd hbl (Nat.not_lt.mpr (Nat.le_trans (Nat.le_of_lt lt0) hI))
       refine loop_kx (W _ (by simpa using hh)).toS s.heap.objs.size nS s.heap hn val hv hval ?hu hb n 0 _ #[] 0 _ [] 3 rfl (Nat.zero_le _) st (fun b o e => ex b o (e0 b o e)) (kx_nil (ex _ _ eS)) (fun x => by simp) (Nat.le_refl _) fun s' es ep t ks m mv T hk => ?_
       case hu =>
         show A.units + 1 + 1 + 9 < cLine
         omega
       obtain ⟨h2, g2, d2, tk2, os2⟩ := s'
       obtain rfl : g2 = s.gens := mv.gens
       obtain rfl : d2 = s.drawn := mv.drawn
       obtain rfl : os2 = s.os := mv.os
       show wpAny _ _ _ _ _ _
       refine wpAny_pure (wpAny_pure ⟨rfl, h2, tk2, es, ep, t, ks, m, rfl, T, hk, fun b o e => mv.heap b o (hn b o e) (ex b o (e0 b o e))⟩)
     · cases r₂ with
       | error e => exact hr₂
       | ok fl₂ =>
         cases fl₂ with
         | ret r =>
           obtain ⟨rfl, h', tk, es, ep, t, ks, m, rfl, T, hk, ex⟩ := hr₂
           repeat (any_goals (first | assumption | wp_step))
           exact k _ _ _ _ _ _ _ T hk ex
         | _ => exact hr₂.elim
   | _ => exact hr.elim
end
end HK
namespace HK
open PySem PySem.Spec PyProof.Rows SX TB L6
section
variable {prog : Program} {w : World} {A : Around} {E : Value → Shared → Prop} {s : Shared}
abbrev sortH (h : Heap) (a : Addr) (vs : List Value) : Heap := ((h.update a (Obj.mapSeq fun _ => #[])).push (seqObj "tuple" vs.toArray 0)).push (seqObj "list" #[] 0)
theorem sort_keys {α : Type} {blt : α → α → Bool} {k : Nat → α} {a : Addr} {vs : List Value} {n : Nat} {P : PySem.Fin → Shared → Prop} (ho : s.heap.get? a = some (seqObj "list" vs.toArray n)) (h64 : vs.length < 64) (K : KeysOk prog w A { s with heap := sortH s.heap a vs } vs vs blt k)
   (h : ∀ ix, Ord blt k vs.length ix → P (.done (.ret .none)) { s with heap := sortedHeap s.heap a vs (pickV vs ix).toArray }) : wpAny (model prog w) A (Builtin.«list.sort» ⟨[.ref a], []⟩) P E s := by
 rw [list_sort_plain]
 have ha : a < s.heap.objs.size := Heap.lt_size ho
 refine wpAny_bind (listItems_at ho rfl ?_)
 refine wpAny_bind (listUpdate_at ho rfl ?_)
 obtain ⟨e1, ho1⟩ : ∃ e1, (s.heap.update a (Obj.mapSeq fun _ => #[])).get? a = some (seqObj "list" #[] e1) := ⟨_, get?_update_seq ho (fun _ => #[])⟩
 refine wpAny_bind (seqEpoch_at ho1 rfl ?_)
 refine wpAny_bind (wpAny_newTuple ?_)
 refine wpAny_bind (wpAny_newList ?_)
 refine wpAny_holding ?_
 have ho6 : (sortH s.heap a vs).get? a = some (seqObj "list" #[] e1) := by
   rw [Heap.get?_push_ne _ _ _ (by rw [size_push', Heap.size_update]; exact Nat.ne_of_lt (Nat.lt_succ_of_lt ha)), Heap.get?_push_ne _ _ _ (by rw [Heap.size_update]; exact Nat.ne_of_lt ha)]
   exact ho1
 show wpAny (model prog w) A _ P E { s with heap := sortH s.heap a vs }
 dsimp only
 have hz : (vs.toArray.zip vs.toArray).size = vs.length := by simp
 have fin : ∀ (st' : SortSt) ix, (arrOf st').size = vs.length → (∀ i, i < vs.length → (arrOf st')[i]? = (vs.toArray.zip vs.toArray)[ix i]?) → failedOf st' = none → Ord blt k vs.length ix →
     wpAny (model prog w) A (do
       let touched := (← seqEpoch a) != e1
       Builtin.List.listUpdate (.ref a) fun _ => (arrOf st').map (·.2)
       if let some e := failedOf st' then rule "list.sort.comparison-raised"; throw e
       if touched then rule "list.sort.modified"; raiseError "ValueError" "list modified during sort"
       ret .none) P E { s with heap := sortH s.heap a vs } := fun st' ix z1 z2 z3 o => by
   have ep := pick_at rfl o.bj z1 z2
   refine wpAny_bind (seqEpoch_at ho6 rfl ?_)
   refine wpAny_bind (listUpdate_at ho6 rfl ?_ (hsz2 := by
     rw [sizeLine_eq, ep]
     simp [pickV]
     omega))
   rw [z3]
   simp only [bne_self_eq_false, Bool.false_eq_true, if_false]
   rw [ep]
   exact wpAny_pure (h ix o)
 by_cases h2 : vs.toArray.size < 2
 · rw [if_pos h2, if_pos h2]
   refine wpAny_bind (wpAny_pure ?_)
   rw [StateT.run_pure]
   refine wpAny_bind (wpAny_pure ?_)
   have h2' : vs.length < 2 := by simpa using h2
   exact fin (SortSt.mk' general' (vs.toArray.zip vs.toArray) #[] 7 none) (fun i => i) hz (fun i _ => rfl) rfl ⟨Bij.idf, fun i j z1 z2 => by omega⟩
 · rw [if_neg h2, if_neg h2]
   have h2' : 2 ≤ vs.length := by simpa using h2
   obtain ⟨kd, kk, cm⟩ := K.kd h2'
   refine wpAny_bind (kk _ _ ?_)
   refine wpAny_bind (wpAny_mono (runs_st (kd := kd) (st := SortSt.mk' kd (vs.toArray.zip vs.toArray) #[] 7 none) (Q := fun _ st' => ∃ ix, (arrOf st').size = vs.length ∧ (∀ i, i < vs.length → (arrOf st')[i]? = (vs.toArray.zip vs.toArray)[ix i]?) ∧ failedOf st' = none ∧ Ord blt k vs.length ix)
     K.wo cm ⟨rfl, fun i _ => rfl, Bij.idf, rfl, rfl, rfl⟩ (by omega) (by omega) fun ix st' z1 z2 z3 z4 z5 => ?_) ?_ fun _ _ e => e)
   · rw [hz] at z1 z2 z3 z5
     exact ⟨ix, z1, z2, z4, z3, z5⟩
   · rintro ⟨⟨⟩, st'⟩ s' ⟨rfl, ix, z1, z2, z3, z4⟩
     exact fin st' ix z1 z2 z3 z4
theorem perm_map_inv {α β : Type} {f : α → β} : ∀ {vs : List β} {l : List α}, vs.Perm (l.map f) → ∃ l' : List α, l'.Perm l ∧ l'.map f = vs
 | [], l, h => by
   have := h.length_eq
   simp at this
   exact ⟨[], by rw [List.length_eq_zero_iff.mp this.symm], rfl⟩
 | v :: vs, l, h => by
   obtain ⟨x, hx, rfl⟩ := List.mem_map.mp (h.mem_iff.mp (List.mem_cons_self))
   obtain ⟨l1, l2, rfl⟩ := List.append_of_mem hx
   rw [List.map_append, List.map_cons] at h
   have h' := (h.trans List.perm_middle).cons_inv
   rw [← List.map_append] at h'
   obtain ⟨l', a, b⟩ := perm_map_inv h'
   exact ⟨x :: l', (a.cons x).trans List.perm_middle.symm, by rw [List.map_cons, b]⟩
theorem pairs_of {R : (Int × Value) → Addr → PyData → Prop} (hR : ∀ e b k, R e b k → e.2 = .ref b) : ∀ (l : List (Int × Value)) (ks : List PyData), ks.length = l.length → (∀ (i : Nat) e, l[i]? = some e → ∃ k b, ks[i]? = some k ∧ R e b k) → ∃ ps : List (Addr × PyData), (ps.map fun p => Value.ref p.1) = l.map (·.2) ∧ ps.map (·.2) = ks ∧ ∀ p ∈ ps, ∃ e ∈ l, R e p.1 p.2
 | [], [], _, _ => ⟨[], rfl, rfl, fun p z => (List.not_mem_nil z).elim⟩
 | [], _ :: _, h, _ => by simp at h
 | _ :: _, [], h, _ => by simp at h
 | e :: l, k :: ks, h, g => by
   obtain ⟨k', b, e1, r⟩ := g 0 e rfl
   cases e1
   obtain ⟨ps, a1, a2, a3⟩ := pairs_of hR l ks (by simpa using h) fun i e' he => g (i + 1) e' (by simpa using he)
   refine ⟨(b, k) :: ps, by simp [a1, hR e b k r], by simp [a2], fun p hp => ?_⟩
   rcases List.mem_cons.mp hp with rfl | hp
   · exact ⟨e, by simp, r⟩
   · obtain ⟨e', h1, h2⟩ := a3 p hp
     exact ⟨e', List.mem_cons_of_mem _ h1, h2⟩
theorem sorted_kx {S : Addr} {es : Es} {ep : Nat} {t : SetTable} {ks : List PyData} {m : Nat} {h0 : Heap} {Sp : Addr → PyData → Prop} {σ : Sh} {d0 : PyData} {Q : Value → Shared → Prop} (hh : A.handled = none) (T : Kx w h0 Sp s.heap S es ep t ks m) (X : Ext h0 s.heap) (hd0 : HasSh σ d0) (hs : ∀ d ∈ ks, HasSh σ d) (h64 : es.size < 64) (hu : A.units + 64 < cLine)
   (k : ∀ (h' : Heap) (d' : Drawn) (tk : Nat) (qs : List (Addr × PyData)) (c : Nat) (l : Addr), Ext s.heap h' → s.heap.objs.size ≤ l → h'.get? l = some (seqObj "list" (qs.map fun q => Value.ref q.1).toArray c) → (∀ q ∈ qs, Sp q.1 q.2) → (qs.map (·.2)).Perm ks → (qs.map (·.2)).Pairwise (fun a b => dlt a b = true) → Q (.ref l) { s with heap := h', drawn := d', toks := tk }) :
   wpAny (model prog w) A (call (.builtin "sorted") [.ref S]) Q E s := by
 refine Calls.call_function_entry kind_sorted plain_sorted entry_sorted (args_sorted1 _) ?_
 unfold Builtin.«sorted»
 refine wpAny_bind (m := checkCount "sorted" 1 1 _) (wpAny_pure ?_)
 refine wpAny_bind (collect_set (by simpa using hh) T.toSx fun h' d' tk vs ex hp hl => ?_)
 obtain ⟨ps, p1, p2, p3⟩ := pairs_of (R := fun e b k => e = (hD w k, .ref b) ∧ (∃ as, Reads h0 (.ref b) k as) ∧ Sp b k) (fun e b k r => by rw [r.1]) es.toList ks (by simpa using T.len) fun i e he => by
   obtain ⟨k', b, as, a1, a2, a3, a4, a5⟩ := T.el i e (by rw [← Array.getElem?_toList]; exact he)
   exact ⟨k', b, a1, a2, ⟨as, a4⟩, a5⟩
 rw [← p1] at hp
 obtain ⟨qs, q1, q2⟩ := perm_map_inv hp
 have qk : (qs.map (·.2)).Perm ks := by rw [← p2]; exact q1.map _
 have vl : vs.length = qs.length := by rw [← q2]; simp
 have ql : qs.length = es.size := by
   have := qk.length_eq
   rw [T.len] at this
   simpa using this
 have v64 : vs.length < 64 := by omega
 refine wpAny_bind (wpAny_newList ?_ (by rw [sizeLine_eq]; omega))
 have eL : (h'.push (seqObj "list" vs.toArray 0)).get? h'.objs.size = some (seqObj "list" vs.toArray 0) := Heap.get?_push_size _ rfl
 have sh' : ∀ d ∈ qs.map (·.2), HasSh σ d := fun d hd => hs d (qk.mem_iff.mp hd)
 have kt' : ∀ d ∈ qs.map (·.2), TupK d := fun d hd => T.kt d (qk.mem_iff.mp hd)
 have ke : KeepS h0 (sortH (h'.push (seqObj "list" vs.toArray 0)) h'.objs.size vs) := fun b o xs n e _ => by
   have eb := ex b o (X b o e)
   have lb := Heap.lt_size eb
   have nb : b ≠ h'.objs.size := Nat.ne_of_lt lb
   have lb2 : b < (h'.push (seqObj "list" vs.toArray 0)).objs.size := by rw [size_push']; exact Nat.lt_succ_of_lt lb
   rw [Heap.get?_push_ne _ _ _ (by rw [size_push', Heap.size_update]; exact Nat.ne_of_lt (Nat.lt_succ_of_lt lb2)), Heap.get?_push_ne _ _ _ (by rw [Heap.size_update]; exact Nat.ne_of_lt lb2), Heap.get?_update_ne _ _ _ _ nb]
   exact Heap.get?_push_of_some _ eb
 have KO : KeysOk prog w A.in1.in1 { s with heap := sortH (h'.push (seqObj "list" vs.toArray 0)) h'.objs.size vs, drawn := d', toks := tk } vs vs (fun a b : { d : PyData // HasSh σ d } => dlt a.1 b.1) (fun i => ⟨(qs.map (·.2)).getD i d0, sh_getD hd0 sh' i⟩) := by
   refine keys_sh hd0 sh' (by rw [vl]; simp) (fun d hd => (kt' d hd).la) (fun d hd => (kt' d hd).de) (by show A.units + 1 + 1 + 12 < cLine; omega) fun i v d hv hd => ?_
   rw [← q2, List.getElem?_map] at hv
   rw [List.getElem?_map] at hd
   cases hq : qs[i]? with
   | none => rw [hq] at hv; cases hv
   | some q =>
     rw [hq] at hv hd
     cases hv; cases hd
     have mq := List.mem_of_getElem? hq
     obtain ⟨e, _, _, ⟨as, r⟩, _⟩ := p3 q (q1.mem_iff.mp mq)
     have tq := kt' q.2 (List.mem_map.mpr ⟨q, mq, rfl⟩)
     obtain ⟨ds, eds⟩ := tq.tu
     exact ⟨q.1, ds, as, rfl, eds, tq.keep ke r⟩
 refine wpAny_bind (wpAny_holding (wpAny_call_entry slot_list_sort ⟨_, eL, rfl⟩ entry_list_sort (sort_keys (s := { s with heap := h'.push (seqObj "list" vs.toArray 0), drawn := d', toks := tk }) eL v64 KO fun ix o => ⟨_, rfl, ?_⟩) (args_list_sort _)))
 obtain ⟨c, ec⟩ := sortedHeap_at (out := (pickV vs ix).toArray) eL
 have hb : ∀ i, i < vs.length → ix i < qs.length := fun i hi => by rw [← vl]; exact o.bj.lt i hi
 have gq : ∀ i, i < vs.length → qs[ix i]? = some (qs.getD (ix i) (0, .none)) := fun i hi => by
   rw [List.getD_eq_getElem?_getD, List.getElem?_eq_getElem (hb i hi)]; rfl
 have ep2 : pickV vs ix = ((List.range vs.length).map fun i => qs.getD (ix i) (0, .none)).map fun q => Value.ref q.1 := by
   unfold pickV
   rw [List.map_map]
   refine List.map_congr_left fun i hi => ?_
   have hi' := List.mem_range.mp hi
   show vs.getD (ix i) .none = Value.ref (qs.getD (ix i) (0, .none)).1
   rw [List.getD_eq_getElem?_getD, ← q2, List.getElem?_map, gq i hi']
   rfl
 have pq : ((List.range vs.length).map fun i => qs.getD (ix i) (0, .none)).Perm qs := by
   have h1 := o.bj.perm.map (fun i => qs.getD i (0, PyData.none))
   rw [List.map_map] at h1
   refine h1.trans ?_
   have : (List.range vs.length).map (fun i => qs.getD i (0, PyData.none)) = qs := by
     rw [vl]
     refine List.ext_getElem? fun i => ?_
     by_cases hi : i < qs.length
     · simp [hi]
     · rw [List.getElem?_eq_none (by simp; omega), List.getElem?_eq_none (by omega)]
   rw [this]
 refine wpAny_pure ⟨_, rfl, k _ d' tk ((List.range vs.length).map fun i => qs.getD (ix i) (0, .none)) c h'.objs.size (fun b o' e => ?_) (Nat.le_of_lt hl) (by rw [← ep2]; exact ec) (fun q hq => ?_) ?_ ?_⟩
 · have eb := ex b o' e
   have nb : b ≠ h'.objs.size := Nat.ne_of_lt (Heap.lt_size eb)
   show (sortedHeap (h'.push (seqObj "list" vs.toArray 0)) h'.objs.size vs _).get? b = _
   rw [sortedHeap_old nb (by rw [size_push']; exact Nat.lt_succ_of_lt (Heap.lt_size eb))]
   exact Heap.get?_push_of_some _ eb
 · obtain ⟨e, _, _, _, sp⟩ := p3 q (q1.mem_iff.mp (pq.mem_iff.mp hq))
   exact sp
 · exact (pq.map _).trans qk
 · rw [List.map_map, List.pairwise_map, List.pairwise_iff_getElem]
   intro i j hi hj hij
   simp only [List.length_range] at hi hj
   simp only [List.getElem_range]
   have gd : ∀ i, i < vs.length → (qs.map (·.2)).getD (ix i) d0 = (qs.getD (ix i) (0, .none)).2 := fun i hi => by
     rw [List.getD_eq_getElem?_getD, List.getElem?_map, gq i hi]; rfl
   have up := (o.up i j hij hj).le (wo_sh σ)
   dsimp only at up
   rw [gd i hi, gd j hj] at up
   have mi : (qs.getD (ix i) (0, .none)).2 ∈ qs.map (·.2) := List.mem_map.mpr ⟨_, List.mem_of_getElem? (gq i hi), rfl⟩
   have mj : (qs.getD (ix j) (0, .none)).2 ∈ qs.map (·.2) := List.mem_map.mpr ⟨_, List.mem_of_getElem? (gq j hj), rfl⟩
   rcases (sh_to σ).tri _ _ (sh' _ mi) (sh' _ mj) with z | z | z
   · exact z
   · exfalso
     have nd : (qs.map (·.2)).Nodup := qk.nodup_iff.mpr T.nd
     have e1 : (qs.map (·.2))[ix i]? = (qs.map (·.2))[ix j]? := by
       rw [List.getElem?_map, List.getElem?_map, gq i hi, gq j hj]
       exact congrArg some z
     have := (List.getElem?_inj (by simpa using hb i hi) nd).mp e1
     have := o.bj.inj i j hi hj this
     omega
   · rw [z] at up
     cases up
end
end HK
namespace L3
open PySem PySem.Spec
open PyProof.Rows hiding St
open L2 SX HK
def tST (K : PySem.W.Frag) (te : TE) : TE := fun σ H Q => te σ H fun v H1 => ∃ (a : Addr) (xs : List V) (ds : List PyData) (F : Addr → Prop) (τ : Sh) (d0 : PyData), v = .ref a ∧ SqL K H1 a xs ∧ IsAll K F H1 xs ds ∧ (∀ d ∈ ds, TupK d) ∧ HasSh τ d0 ∧ (∀ d ∈ ds, HasSh τ d) ∧ ds.length < 64 ∧
 ∀ (zs : List PyData) (ys : List V) p, zs.Nodup → (∀ d, d ∈ zs ↔ d ∈ ds) → zs.Pairwise (fun a b => dlt a b = true) → IsAll K F H1 ys zs → H1 p = none → Q (.ref p) (upd H1 p (.lst ys))
theorem vals_refs : ∀ (qs : List (Addr × PyData)), Vals (qs.map fun q => V.ref q.1) (qs.map fun q => Value.ref q.1)
 | [] => .nil
 | b :: bs => .cons rfl (vals_refs bs)
theorem isAll_of {K : PySem.W.Frag} {F : Addr → Prop} {H : Hp} : ∀ {qs : List (Addr × PyData)}, (∀ q ∈ qs, Is K F H (.ref q.1) q.2) → IsAll K F H (qs.map fun q => V.ref q.1) (qs.map (·.2))
 | [], _ => .nil
 | q :: qs, h => .cons (h q (by simp)) (isAll_of fun r z => h r (List.mem_cons_of_mem _ z))
theorem pe_sortsetK {X : Cx} {e : Expr} {te : TE} {p1 p2 p3 p4 : Pos} (hc : X.calm = true) (hu : X.A.units + 64 < cLine) (gl : Gl X "sorted") (ml : X.mg "sorted" = none) (gr : Gl X "set") (mr : X.mg "set" = none) (he : PE X e te)
   (s1 : starEach [.Call (.Name "set" p2) [e] [] p3] X.env = (false, eval (.Call (.Name "set" p2) [e] [] p3) X.env) :: starEach [] X.env := by rfl) (s2 : starEach [e] X.env = (false, eval e X.env) :: starEach [] X.env := by rfl) :
   PE X (.Call (.Name "sorted" p1) [.Call (.Name "set" p2) [e] [] p3] [] p4) (tST X.K te) := by
 intro pins s σ H Q I h
 have calm := I.ok.hd hc
 refine wpAny_Call_Name_kw (ld_blt I gl ml bt_sorted ?_)
 refine PyProof.Rows.callWith_builtin1 ?_ s1
 rw [s1]
 show wpAny _ _ (spliced ((false, eval (.Call (.Name "set" p2) [e] [] p3) X.env) :: [])) _ _ s
 refine Calls.spliced_cons ?_
 refine wpAny_Call_Name_kw (ld_blt I gr mr (u := .type "set") rfl ?_)
 refine PyProof.Rows.callWith_type1 ?_ s2
 rw [s2]
 show wpAny _ _ (spliced ((false, eval e X.env) :: [])) _ _ s
 refine Calls.spliced_cons (thn (he pins s σ H _ I h) fun u s' ⟨y, H1, I1, r1, a, xs, ds, F, τ, d0, ey, hq, ia, tk, sh0, sh, hl, q⟩ => ?_)
 refine Calls.spliced_nil ?_
 subst ey
 cases r1
 obtain ⟨its, rv, pl, hz2⟩ := I1.list hq
 have ln : its.length = ds.length := by rw [← rv.length, ia.length]
 have at' : ∀ (i : Nat) v, its[i]? = some v → ∃ b as d, ds[i]? = some d ∧ v = .ref b ∧ Reads s'.heap (.ref b) d as ∧ Is X.K F H1 (.ref b) d := fun i v hv => by
   have hi : i < ds.length := by rw [← ln]; exact (List.getElem?_eq_some_iff.mp hv).1
   obtain ⟨x, hx, ix⟩ := ia.get (List.getElem?_eq_getElem hi)
   obtain ⟨u, hu', ru⟩ := rv.get hx
   rw [hv] at hu'
   cases hu'
   have tki := tk _ (List.getElem_mem hi)
   obtain ⟨ds', eds⟩ := tki.tu
   rw [eds] at ix
   obtain ⟨as, ra⟩ := ix.reads I1 ru
   cases ix with
   | tuple q1 q2 =>
     cases ru
     exact ⟨_, as, _, (List.getElem?_eq_getElem hi).trans (by rw [eds]), rfl, ra, .tuple q1 q2⟩
 refine call_setK (T := "list") (val := fun i => ds.getD i .none) (Sp := fun b d => Is X.K F H1 (.ref b) d) calm (fun s₁ ex => ?_) PySem.F.sub_list_set PySem.F.sub_list_frozenset (by decide) (src_ls pl.isList) (fun i hi => ?_) (fun i v hi hv => ?_) hu (by simp; omega) fun h' tk' es ep t ks m T hk ex => ?_
 · obtain ⟨o, e, c, _⟩ := pl.isList
   exact ⟨o, ex _ o e, c⟩
 · have hi' : i < ds.length := by rw [← ln]; simpa using hi
   rw [List.getD_eq_getElem?_getD, List.getElem?_eq_getElem hi']
   exact tk _ (List.getElem_mem hi')
 · have hv' : its[i]? = some v := by simpa using hv
   obtain ⟨b, as, d, e1, e2, e3, e4⟩ := at' i v hv'
   refine ⟨b, as, e2, ?_⟩
   rw [List.getD_eq_getElem?_getD, e1]
   exact ⟨e3, e4⟩
 · have mem : ∀ d, d ∈ ks ↔ d ∈ ds := fun d => by
     rw [hk]
     have ez : its.toArray.size = ds.length := by simpa using ln
     rw [ez]
     constructor
     · rintro ⟨j, hj, rfl⟩
       rw [List.getD_eq_getElem?_getD, List.getElem?_eq_getElem hj]
       exact List.getElem_mem hj
     · intro hd
       obtain ⟨j, hj⟩ := List.mem_iff_getElem?.mp hd
       exact ⟨j, (List.getElem?_eq_some_iff.mp hj).1, by rw [List.getD_eq_getElem?_getD, hj]; rfl⟩
   have z64 : es.size < 64 := by
     rw [← T.len]
     have : ks.length ≤ ds.length := by
       classical
       exact TB.len_nd (xs := ks) (ys := ds) T.nd fun k hk' => (mem k).mp hk'
     omega
   refine Calls.spliced_nil ?_
   refine sorted_kx (s := { s' with heap := h', toks := tk' }) calm T ex sh0 (fun d hd => sh d ((mem d).mp hd)) z64 hu fun h2 d2 tk2 qs c l ex2 hl2 el sp zp zs => ?_
   have lt' : s'.heap.objs.size ≤ l := Nat.le_trans (Nat.le_of_lt (T.toSx.lts (s := { s' with heap := h', toks := tk' }))) hl2
   have I2 := (Inv.draw (I1.laid (a := l) (o := .lst (qs.map fun q => V.ref q.1)) (t' := tk2) (h' := h2) (fun b o e => ex2 b o (ex b o e)) lt' ?_) d2)
   · exact ⟨.ref l, _, I2, rfl, q (qs.map (·.2)) _ l (zp.nodup_iff.mpr T.nd) (fun d => by rw [zp.mem_iff]; exact mem d) zs (isAll_of sp) (I1.hok.fresh lt')⟩
   · refine ⟨?_, qs.map (fun q => Value.ref q.1), c, vals_refs qs, el⟩
     have := zp.length_eq
     rw [List.length_map] at this
     rw [List.length_map, this, T.len, sizeLine_eq]
     omega
def stD (f : DE) : DE := fun ρ Q => f ρ fun r => ∃ (ds : List PyData) (τ : Sh) (d0 : PyData), r.d = .list ds ∧ (∀ d ∈ ds, TupK d) ∧ HasSh τ d0 ∧ (∀ d ∈ ds, HasSh τ d) ∧ ds.length < 64 ∧ ∀ zs : List PyData, zs.Nodup → (∀ d, d ∈ zs ↔ d ∈ ds) → zs.Pairwise (fun a b => dlt a b = true) → Q (.n zs)
theorem ed_st {K : PySem.W.Frag} {O : Ob} {te : TE} {f : DE} (h : ED K O te f) : ED K O (tST K te) (stD f) := fun σ H ρ Q Qd S hf k => by
 refine h σ H ρ _ _ S hf fun v H1 r s1 o1 ⟨ds, τ, d0, e, tk, s0, sh, hl, q⟩ => ?_
 have i := o1.is S.ok S.p
 rw [e] at i
 cases i with
 | list f1 a1 b1 =>
   refine ⟨_, _, ds, _, τ, d0, rfl, .of a1, b1, tk, s0, sh, hl, fun zs ys p h1 h2 h3 h4 hn => ?_⟩
   obtain ⟨c1, c2⟩ := out_list (K := K) S.ok hn h4
   exact k _ _ _ (s1.trans c1) (c2.ahead S.ok S.p s1) (q zs h1 h2 h3)
theorem e_sortsett {ι κ : Type} {P : Program} {w : World} {K : PySem.W.Frag} {mg : Str → Option Value} {base : Heap} {k : Nat} {X : ι → Cx} {O : κ → Ob} {a : Expr} {fa : DE} {p1 p2 p3 p4 : Pos} (C : Ctx3 P w K mg base k X) (B : Blt mg) (ha : E3 K X O a fa) (g1 : ∀ i, Gl (X i) "sorted" := by intro i; rfl) (g2 : ∀ i, Gl (X i) "set" := by intro i; rfl)
   (s1 : ∀ i, starEach [.Call (.Name "set" p2) [a] [] p3] (X i).env = (false, eval (.Call (.Name "set" p2) [a] [] p3) (X i).env) :: starEach [] (X i).env := by intro i; rfl) (s2 : ∀ i, starEach [a] (X i).env = (false, eval a (X i).env) :: starEach [] (X i).env := by intro i; rfl) :
   E3 K X O (.Call (.Name "sorted" p1) [.Call (.Name "set" p2) [a] [] p3] [] p4) (stD fa) :=
 let ⟨_, q, d⟩ := ha
 ⟨tST K _, fun i => by
   have h := pe_sortsetK (X := X i) (p1 := p1) (p2 := p2) (p3 := p3) (p4 := p4) (C.calm i) (C.room i).units (g1 i) (by rw [C.hmg]; exact B.sorted) (g2 i) (by rw [C.hmg]; exact B.set) (q i) (s1 i) (s2 i)
   rw [C.hK] at h
   exact h, fun j => ed_st (d j)⟩
end L3
namespace L6
open PySem PySem.Spec
open PyProof.Rows hiding St
open L2 L3
section
variable {X : Cx}
def tSortKU (K : PySem.W.Frag) (sp : Sp) (ta : TE) : TE := fun σ H Q => ta σ H fun v H1 => ∃ p xs, v = .ref p ∧ (H1 p = some (.lst xs) ∨ SqT K H1 p xs) ∧ xs.length < 64 ∧
 keyGo sp (fun ks H2 => ∃ (α : Type) (blt : α → α → Bool) (k : Nat → α), KeysV K H2 ks α blt k ∧ ∀ ix l, Ord blt k xs.length ix → H2 l = none → Q (.ref l) (upd H2 l (.lst (pickL .non xs ix)))) xs [] H1
theorem pe_sortKU {k : Nat} {f : Addr} {fd : FuncData} {y x : Str} {sp : Sp} {ta : TE} {a : Expr} {p px kp pos : Pos} (F : FnOk X.prog X.w X.K X.mg X.base CX0 k f fd [y] sp) (hr : Room (k + 1) X.A) (hb : Binds X.K fd [y] []) (hg : Gl X "sorted") (hm : X.mg "sorted" = none)
   (hgx : Gl X x) (hmx : X.mg x = some (.ref f)) (ha : PE X a ta) (hdx : (x == ("__debug__" : Str)) = false := by decide) (hs : starEach [a] X.env = [(false, eval a X.env)] := by rfl) :
   PE X (.Call (.Name "sorted" p) [a] [⟨some "key", .Name x px, kp⟩] pos) (tSortKU X.K sp ta) := by
 intro pins s σ H Q I h
 refine wpAny_Call_Name_kw (ld_blt I hg hm bt_sorted ?_)
 refine callWith_kw ?_ (by rw [hs]; rfl) (by rw [hs]; rfl) rfl rfl
 rw [hs]
 refine Calls.spliced_cons (thn (ha pins s σ H _ I h) fun u s1 ⟨v, H1, I1, r1, q, xs, ev, hq, h64, go⟩ => ?_)
 subst ev
 obtain rfl : u = Value.ref q := r1
 refine Calls.spliced_nil ?_
 refine kws_cons (ld_glob I1 hgx hmx (kws_nil ?_) hdx)
 show wpAny (model X.prog X.w) X.A (call (.builtin "sorted") [.ref q] [(Str.ofString "key", .ref f)]) _ _ s1
 refine call_function_entry_kw kind_sorted plain_sorted entry_sorted (PyProof.Rows.ksk_s1 _ _) ?_
 unfold Builtin.«sorted»
 refine wpAny_bind (m := checkCount "sorted" 1 1 _) (wpAny_pure ?_)
 rcases hq with hq | hq
 · obtain ⟨hz, vs, n, rv, hlv, e1⟩ := I1.lstM hq
   refine wpAny_bind (wpAny_collect_seq q (.inl rfl) e1 rfl rfl (fun h' ex => ?_) (by rw [sizeLine_eq]; simp; omega))
   exact sortK_core F hr hb (I1.kept (t' := s1.toks) ex) rv h64 go fun v s' z => ⟨_, rfl, z⟩
 · obtain ⟨vs, rv, ⟨o, e, c, n, dt⟩, hsz⟩ := I1.tuple hq
   have hlv : xs.length = vs.length := rv.length
   refine wpAny_bind (wpAny_collect_seq q (.inr rfl) e c dt (fun h' ex => ?_) (by rw [sizeLine_eq]; simp; omega))
   exact sortK_core F hr hb (I1.kept (t' := s1.toks) ex) rv h64 go fun v s' z => ⟨_, rfl, z⟩
end
end L6
namespace L3
open PySem PySem.Spec
open PyProof.Rows hiding St
open L2 L6
section
variable {K : PySem.W.Frag} {O : Ob}
def sortKU (F : List PyData → (R → Prop) → Prop) (f : DE) : DE := fun ρ Q => f ρ fun r => ∃ (ds : List PyData) (kf : PyData → Int × Str), (r.d = .list ds ∨ r.d = .tuple ds) ∧ ds.length < 64 ∧ (∀ d ∈ ds, F [d] fun r => r.d = .tuple [.int (kf d).1, .str (kf d).2]) ∧ Q (.n (sortBy kf ds))
theorem ed_sortKU {φ : Ob → Prop} {F : List PyData → (R → Prop) → Prop} {te : TE} {f : DE} (hφ : φ O) (h : ED K O te f) : ED K O (tSortKU K (spO K φ 1 F) te) (sortKU F f) := fun σ H ρ Q Qd S hf k => by
 refine h σ H ρ _ _ S hf fun v H1 r s1 o1 ⟨ds, kf, e, hl, hF, q⟩ => ?_
 have i := o1.is S.ok S.p
 have p1 := s1.p S.p
 have core : ∀ (a : Addr) (xs : List V), (H1 a = some (.lst xs) ∨ SqT K H1 a xs) → IsAll K (unM O) H1 xs ds → ∃ p xs, V.ref a = .ref p ∧ (H1 p = some (.lst xs) ∨ SqT K H1 p xs) ∧ xs.length < 64 ∧
     keyGo (spO K φ 1 F) (fun ks H2 => ∃ (α : Type) (blt : α → α → Bool) (k : Nat → α), KeysV K H2 ks α blt k ∧ ∀ ix l, Ord blt k xs.length ix → H2 l = none → Q (.ref l) (upd H2 l (.lst (pickL .non xs ix)))) xs [] H1 := fun a xs a1 b1 => by
   have hlx := b1.length
   refine ⟨a, xs, rfl, a1, by rw [hlx]; exact hl, ?_⟩
   refine key_go (kf := kf) S.ok hφ ds xs [] [] H1 p1 b1 ⟨rfl, fun i v p e1 _ => by simp at e1⟩ hF fun ks H2 st2 hk => ?_
   refine ⟨_, _, _, .pair (ds.map kf) ks hk.1 hk.2, fun ix l od hn => ?_⟩
   have isAll2 : IsAll K (unM O) H2 xs ds := b1.stp st2 (fun _ f => f) (fun _ f => f)
   have hb : ∀ i, i < xs.length → ix i < ds.length := fun i hi => by rw [← hlx]; exact od.bj.lt i hi
   have pk := pick_isAll isAll2 (n := xs.length) hb
   rw [sort_pick hlx od] at pk
   obtain ⟨c1, c2⟩ := out_list (K := K) S.ok hn pk
   exact k _ _ _ ((s1.trans st2).trans c1) (c2.ahead S.ok S.p (s1.trans st2)) q
 rcases e with e | e
 · rw [e] at i
   cases i with
   | list f1 a1 b1 => exact core _ _ (.inl a1) b1
 · rw [e] at i
   cases i with
   | tuple a1 b1 => exact core _ _ (.inr a1) b1
end
theorem e_sortku {ι κ : Type} {P : Program} {w : World} {K : PySem.W.Frag} {mg : Str → Option Value} {base : Heap} {k : Nat} {X : ι → Cx} {O : κ → Ob} {a : Expr} {fa : DE} {pos p px kp : Pos} {k' : Nat} {x y : Str} {φ : Ob → Prop} {F : List PyData → (R → Prop) → Prop} (C : Ctx3 P w K mg base k X) (B : Blt mg) (D : Def3 P w K mg base k' x [y] (spO K φ 1 F)) (hφ : ∀ j, φ (O j)) (ha : E3 K X O a fa) (hk : k' + 1 ≤ k := by decide)
   (hg : ∀ i, Gl (X i) "sorted" := by intro i; rfl) (hgx : ∀ i, Gl (X i) x := by intro i; rfl) (hdx : (x == ("__debug__" : Str)) = false := by decide) (hs : ∀ i, starEach [a] (X i).env = [(false, eval a (X i).env)] := by intro i; rfl) :
   E3 K X O (.Call (.Name "sorted" p) [a] [⟨some "key", .Name x px, kp⟩] pos) (sortKU F fa) := by
 obtain ⟨f, fd, G, m, kp', bn⟩ := D.ex
 obtain ⟨t, q, d⟩ := ha
 refine ⟨tSortKU K (spO K φ 1 F) t, fun i => ?_, fun j => ed_sortKU (hφ j) (d j)⟩
 obtain ⟨j, rfl⟩ : ∃ j, k = j + 1 := ⟨k - 1, by omega⟩
 have G' := G.mono (show k' ≤ j by omega)
 have h := pe_sortKU (X := X i) (k := j) (f := f) (fd := fd) (y := y) (x := x) (sp := spO K φ 1 F) (ta := t) (a := a) (p := p) (px := px) (kp := kp) (pos := pos) (by rw [C.hP, C.hw, C.hK, C.hmg, C.hb]; exact G') (C.room i) (by rw [C.hK]; exact bn) (hg i) (by rw [C.hmg]; exact B.sorted) (hgx i) (by rw [C.hmg]; exact m) (q i) hdx (hs i)
 rw [C.hK] at h
 exact h
end L3
namespace L3
open PySem PySem.Spec
open PyProof.Rows hiding St
open L2
section
variable {K : PySem.W.Frag} {O : Ob}
def app2S (i m : Nat) (f : DE) : DS := fun Dd ρ => ∃ ds d, ρ[i]? = some (some (.own ds)) ∧ ρ[m]? = some (some (.im d)) ∧ f ρ fun r => flat r.d = true ∧ ds.length < sizeLine ∧ Dd.nx (ρ.set i (some (.own (ds ++ [.tuple [d, r.d]]))))
theorem sd_app2 {i m : Nat} {t : TE} {f : DE} (h : ED K O t f) : SD K O (tDrop (tBM K "list" rAppend (tVar i) (tCons (tTup (tCons (tVar m) (tCons t tNil))) tNil))) (app2S i m f) := fun H₀ A σ H ρ D Dd r q P => by
 obtain ⟨ds, d, e, em, q⟩ := q
 obtain ⟨v, hv, a, xs, rfl, ha, hl, hs⟩ := r.at_ i _ e
 obtain ⟨y, hy, iy⟩ := r.at_ m _ em
 refine ⟨_, hv, ?_⟩
 refine ⟨.inl ⟨rfl, xs, .of hl⟩, ?_⟩
 refine ⟨y, hy, ?_⟩
 refine h σ H ρ _ _ r.seen q fun w H1 x s1 o1 ⟨fl, hz, q1⟩ => ?_
 refine ⟨by rw [sizeLine_eq]; simp, fun p hp => ?_⟩
 have s2 : Stp O H1 (upd H1 p (.tup [y, w])) := .new r.ok hp _
 have r2 := (r.stp s1).stp s2
 obtain ⟨v1, hv1, a1, xs1, e1, ha1, hl1, hs1⟩ := r2.at_ i _ e
 rw [hv] at hv1
 cases hv1
 cases e1
 obtain ⟨y2, hy2, iy2⟩ := r2.at_ m _ em
 rw [hy] at hy2
 cases hy2
 have iw : Is K (unO O A) (upd H1 p (.tup [y, w])) w x.d := Is.flat s2.t (o1.is r.ok r.p) fl
 refine ⟨a, xs1, .ref p, rfl, rfl, hl1, by rw [hs1.length]; exact hz, ?_⟩
 have it : Is K (unO O A) (upd H1 p (.tup [y, w])) (.ref p) (.tuple [d, x.d]) := .tuple (.of upd_same) (.cons iy2 (.cons iw .nil))
 exact P.nx A σ _ _ (r2.change e hv ha (hs1.snoc it)) ((Frm.stp (s1.trans s2)).trans (.change ha)) q1
end
section
variable {ι κ : Type} {P : Program} {w : World} {K : PySem.W.Frag} {mg : Str → Option Value} {base : Heap} {k : Nat} {X : ι → Cx} {O : κ → Ob} {b : Expr} {fb : DE} {pos p : Pos}
theorem s_app2 (n m : Nat) {x y : Str} {px py pt apos cpos : Pos} {ctx : _} (C : Ctx3 P w K mg base k X) (hb : E3 K X O b fb) (hN : ∀ i, (X i).N[n]? = some x := by intro i; rfl) (hv : ∀ i, Vis (X i).env.scope x := by intro i; first | exact Or.inl rfl | exact Or.inr (Or.inl rfl) | exact Or.inr (Or.inr rfl)) (hM : ∀ i, (X i).N[m]? = some y := by intro i; rfl) (hvy : ∀ i, Vis (X i).env.scope y := by intro i; first | exact Or.inl rfl | exact Or.inr (Or.inl rfl) | exact Or.inr (Or.inr rfl))
   (hd : (x == ("__debug__" : Str)) = false := by decide) (hcd : (x == ("__classdict__" : Str)) = false := by decide) (hdy : (y == ("__debug__" : Str)) = false := by decide) (hcdy : (y == ("__classdict__" : Str)) = false := by decide)
   (hbase : ∀ i, attributeBase (.Name x px) "append" (X i).env (eval (.Name x px) (X i).env) = eval (.Name x px) (X i).env := by intro i; rfl)
   (hfew : ∀ i, ((backTo cpos (starEach [.Tuple [.Name y py, b] ctx pt] (X i).env)).all (fun x => !x.1) && (backToKw cpos (keywordEach [] (X i).env)).all (fun x => x.1.isSome) && decide (([.Tuple [.Name y py, b] ctx pt] : List Expr).length + ([] : List Keyword).length + (if ([] : List Keyword).isEmpty then 0 else 1) < 30)) = true := by intro i; rfl)
   (hline : (apos.endLine == cpos.line) = true := by rfl) (hs : ∀ i, starEach [.Tuple [.Name y py, b] ctx pt] (X i).env = [(false, eval (.Tuple [.Name y py, b] ctx pt) (X i).env)] := by intro i; rfl)
   (hs1 : ∀ i, starEach [.Name y py, b] (X i).env = (false, eval (.Name y py) (X i).env) :: starEach [b] (X i).env := by intro i; rfl) (hs2 : ∀ i, starEach [b] (X i).env = (false, eval b (X i).env) :: starEach [] (X i).env := by intro i; rfl)
   (hsw : ∀ i, swapsWith (.Call (.Attribute (.Name x px) "append" apos) [.Tuple [.Name y py, b] ctx pt] [] cpos) none pos.line (X i).env = pure false := by intro i; rfl) :
   S3 K X O (.Expr (.Call (.Attribute (.Name x px) "append" apos) [.Tuple [.Name y py, b] ctx pt] [] cpos) pos) (app2S n m fb) := let ⟨_, p2, d2⟩ := hb;
 ⟨tDrop (tBM K "list" rAppend (tVar n) (tCons (tTup (tCons (tVar m) (tCons _ tNil))) tNil)), fun i => by
   have h := pe_bm (apos := apos) (cpos := cpos) PySem.F.plainAttrs_list PySem.F.slot_list_append PySem.F.type_list_append (mtr_append (X := X i)) (pe_var (pos := px) (hN i) (hv i) hd hcd) (pa_cons (pe_tup (pos := pt) (x1 := ctx) (pa_cons (pe_var (pos := py) (hM i) (hvy i) hdy hcdy) (pa_cons (p2 i) pa_nil (hs2 i)) (hs1 i))) pa_nil (hs i)) (hbase i) (hfew i) hline (hs i)
   rw [C.hK] at h
   exact ps_expr h (hsw i), fun j => sd_app2 (d2 j)⟩
end
end L3
namespace L3
open PySem PySem.Spec
open PyProof.Rows hiding St
open L2 L6 HK
def encL (w : List Nat) : PyData := .tuple [.int (w.length : Nat), tS w]
abbrev shL : Sh := .fcons .n (.fcons .t .fnil)
theorem has_shL (w : List Nat) : HasSh shL (encL w) := ⟨_, _, rfl, ⟨_, rfl⟩, _, _, rfl, ⟨_, rfl⟩, rfl⟩
theorem tupK_L {w : List Nat} (h : Sml w) : TupK (encL w) := by
 refine ⟨⟨_, rfl⟩, sh_hk shL _ (has_shL w), ?_, ?_, fun z => ?_⟩
 · simp [encL, PyData.canLay0, PyData.canLayAll0, ok_sml h]
 · simp [encL, PyData.depth, PyData.depthAll]
 · simp [encL, bv, bvs] at z
theorem encL_inj {a b : List Nat} (h : encL a = encL b) : a = b := by
 unfold encL at h
 injection h with h
 injection h with _ h
 injection h with h _
 injection h with h
 exact tx_inj h
theorem dlt_L (a b : List Nat) : dlt (encL a) (encL b) = wlt a b := by
 show dlts _ _ = _
 have e1 : PyData.eqv (.int (a.length : Nat)) (.int (b.length : Nat)) = decide (a.length = b.length) := by
   show ((a.length : Int) == (b.length : Int)) = _
   by_cases e : a.length = b.length
   · rw [decide_eq_true e, e]; simp
   · rw [decide_eq_false e]
     exact beq_eq_false_iff_ne.mpr (by omega)
 rw [dlts, e1]
 unfold wlt
 by_cases e : a.length = b.length
 · rw [decide_eq_true e, if_pos rfl, dlts]
   have e2 : PyData.eqv (tS a) (tS b) = decide (a = b) := by
     show (tx a == tx b) = _
     rw [tx_beq]
   rw [e2]
   by_cases e3 : a = b
   · subst e3
     simp [dlts, List.lt_irrefl]
   · rw [decide_eq_false e3, if_neg Bool.false_ne_true]
     show decide ((tx a).cps.toList < (tx b).cps.toList) = _
     rw [tx_toList, tx_toList]
     simp [e]
 · rw [decide_eq_false e, if_neg Bool.false_ne_true]
   show decide ((a.length : Int) < (b.length : Int)) = _
   simp
theorem unmap_L {ws : List (List Nat)} {zs : List PyData} (nd : zs.Nodup) (mem : ∀ d, d ∈ zs ↔ d ∈ ws.map encL) (up : zs.Pairwise fun a b => dlt a b = true) : ∃ us : List (List Nat), zs = us.map encL ∧ us.Nodup ∧ (∀ w, w ∈ us ↔ w ∈ ws) ∧ us.Pairwise fun a b => wlt a b = true := by
 have : ∃ us : List (List Nat), zs = us.map encL := by
   have go : ∀ l : List PyData, (∀ d ∈ l, ∃ p, d = encL p) → ∃ us : List (List Nat), l = us.map encL := by
     intro l
     induction l with
     | nil => exact fun _ => ⟨[], rfl⟩
     | cons d l ih =>
       intro h
       obtain ⟨us, e⟩ := ih fun x hx => h x (List.mem_cons_of_mem _ hx)
       obtain ⟨p, rfl⟩ := h d (by simp)
       exact ⟨p :: us, by rw [e]; rfl⟩
   refine go zs fun d hd => ?_
   obtain ⟨e, _, rfl⟩ := List.mem_map.mp ((mem d).mp hd)
   exact ⟨_, rfl⟩
 obtain ⟨us, rfl⟩ := this
 refine ⟨us, rfl, ?_, fun p => ?_, ?_⟩
 · rw [List.nodup_iff_pairwise_ne, List.pairwise_map] at nd
   exact nd.imp fun h e => h (by rw [e])
 · have := mem (encL p)
   rw [List.mem_map, List.mem_map] at this
   constructor
   · intro hp
     obtain ⟨e, he, e2⟩ := this.mp ⟨p, hp, rfl⟩
     rw [← encL_inj e2]
     exact he
   · intro he
     obtain ⟨p', hp', e2⟩ := this.mpr ⟨p, he, rfl⟩
     rw [← encL_inj e2]
     exact hp'
 · rw [List.pairwise_map] at up
   exact up.imp fun h => by rw [dlt_L] at h; exact h
def lowW (us : List (List Nat)) (w : List Nat) : Bool := (us.filter fun o => !decide (o = w) && under o w).isEmpty
theorem low_iff {us : List (List Nat)} {w : List Nat} : lowW us w = true ↔ ∀ o ∈ us, under o w = true → o = w := by
 unfold lowW
 rw [List.isEmpty_iff, List.filter_eq_nil_iff]
 constructor
 · intro h o ho hu
   have := h o ho
   refine Classical.byContradiction fun z => this ?_
   simp [z, hu]
 · intro h o ho hu
   simp only [Bool.and_eq_true, Bool.not_eq_true', decide_eq_false_iff_not] at hu
   exact hu.1 (h o ho hu.2)
theorem low_kept {ws us : List (List Nat)} (mem : ∀ w, w ∈ us ↔ w ∈ ws) (up : us.Pairwise fun a b => wlt a b = true) : Kept ws (us.filter (lowW us)) := by
 refine ⟨up.sublist List.filter_sublist, fun w hw => (mem w).mp (List.mem_filter.mp hw).1, fun w hw => ?_, fun v hv w hw hu => ?_⟩
 · have key : ∀ n (w : List Nat), w.length = n → w ∈ us → ∃ v ∈ us.filter (lowW us), under v w = true := by
     intro n
     induction n using Nat.strongRecOn with
     | ind n ih =>
       intro w hn hw
       by_cases h : lowW us w = true
       · exact ⟨w, List.mem_filter.mpr ⟨hw, h⟩, under_rfl w⟩
       · have : ∃ o, o ∈ us ∧ under o w = true ∧ o ≠ w := Classical.byContradiction fun z => h (low_iff.mpr fun o ho hu => Classical.byContradiction fun y => z ⟨o, ho, hu, y⟩)
         obtain ⟨o, ho, hu, hne⟩ := this
         have hl := under_len hu
         have hlt : o.length < n := by
           rw [← hn]
           refine Nat.lt_of_le_of_ne hl fun e => hne (under_eq hu (by omega))
         obtain ⟨v, hv, h2⟩ := ih _ hlt o rfl ho
         exact ⟨v, hv, under_trans h2 hu⟩
   exact key _ w rfl ((mem w).mpr hw)
 · exact low_iff.mp (List.mem_filter.mp hv).2 w ((mem w).mpr hw) hu
theorem low_least {ws us : List (List Nat)} (mem : ∀ w, w ∈ us ↔ w ∈ ws) (up : us.Pairwise fun a b => wlt a b = true) : us.filter (lowW us) = leastOf (sortW ws) :=
 kept_uniq (fun x => sortW_mem.symm) (low_kept mem up) (least_kept (sortW_up ws))
def oneLiesUnderF : List PyData → (R → Prop) → Prop := fun ds Q => ∃ (ws : List (List Nat)) (w : List Nat), ds = [.list (ws.map tS), tS w] ∧ (∀ v ∈ ws, Sml v) ∧ Sml w ∧ Q (.o (.bool (ws.any fun v => under v w)))
def leastF : List PyData → (R → Prop) → Prop := fun ds Q => ∃ (ws : List (List Nat)) (d : PyData), ds = [d] ∧ (d = .list (ws.map tS) ∨ d = .tuple (ws.map tS)) ∧ (∀ w ∈ ws, Sml w) ∧ ws.length < 64 ∧ Q (.n ((leastOf (sortW ws)).map tS))
def lowestF : List PyData → (R → Prop) → Prop := fun ds Q => ∃ ws : List (List Nat), ds = [.list (ws.map tS)] ∧ (∀ w ∈ ws, Sml w) ∧ ws.length < 64 ∧ Q (.o (.tuple ((leastOf (sortW ws)).map tS)))
def wordsLF : List PyData → (R → Prop) → Prop := fun ds Q => ∃ ls : List Nat, ds = [tS ls] ∧ LowW ls ∧ ls ≠ [] ∧ ls.length ≤ 26 ∧ ∀ ws : List (List Nat), (∀ w ∈ ws, SubW ls w ∧ w.length ≤ 6) → ws.length ≤ 20 → Q (.n (ws.map tS))
def rightF : List PyData → (R → Prop) → Prop := fun ds Q => ∃ (ws : List (List Nat)) (way : Int), ds = [.list (ws.map tS), .int way] ∧ (way = 0 ∨ way = 1) ∧ (∀ w ∈ ws, Sml w) ∧ ws.length ≤ 20 ∧ Q (.o (.bool true))
theorem kept_sub {kept : List (List Nat)} : ∀ {ws : List (List Nat)} (w), w ∈ ws.foldl keep1 kept → w ∈ kept ∨ w ∈ ws
 | [], w, h => .inl h
 | v :: ws, w, h => by
   rcases kept_sub (kept := keep1 kept v) (ws := ws) w h with h | h
   · unfold keep1 at h
     split at h
     · exact .inl h
     · rcases List.mem_append.mp h with h | h
       · exact .inl h
       · rw [List.mem_singleton.mp h]
         exact .inr (by simp)
   · exact .inr (List.mem_cons_of_mem _ h)
theorem kept_len {kept : List (List Nat)} : ∀ {ws : List (List Nat)}, (ws.foldl keep1 kept).length ≤ kept.length + ws.length
 | [] => Nat.le_refl _
 | v :: ws => by
   have := kept_len (kept := keep1 kept v) (ws := ws)
   have h2 : (keep1 kept v).length ≤ kept.length + 1 := by
     unfold keep1
     split
     · omega
     · rw [List.length_append, List.length_singleton]; exact Nat.le_refl _
   rw [List.foldl_cons, List.length_cons]
   omega
end L3
namespace L13
open PySem PySem.Spec
open PyProof.Rows hiding St
open L2 L3 L6
section
variable {P : Program} {w : World} {K : PySem.W.Frag} {mg : Str → Option Value} {base : Heap} {k : Nat}
abbrev sWordOrder : Stmt := top 1
theorem scWordOrder : FnScope ["word"] ["word"] (defScope sWordOrder) := ⟨rfl, rfl, rfl, by decide +kernel, rfl, by decide +kernel, by decide +kernel⟩
theorem d_word_order (B : Blt mg) (T : Top3 K mg "word_order" sWordOrder) : Def3 P w K mg base 1 "word_order" ["word"] (spO K (fun _ => True) 1 wordOrderF) := by
 refine mk_O T scWordOrder (fun _ _ _ _ _ _ us hl => match us, hl with | [_], _ => rfl) rfl fun f cdv A outer s H E O hφ C => ⟨_, (ss_one (s_ret (e_tup (a_cons (e_len C B (a_cons (e_var 0) a_nil)) (a_cons (e_var 0) a_nil))))), fun ds Qr hn q => ?_⟩
 obtain ⟨v, rfl, hv, q⟩ := q
 exact ⟨_, _, rfl, rfl, _, len_tx (by omega), _, _, rfl, rfl, by show 2 ≤ sizeLine; decide, q _ rfl⟩
end
section
variable {P : Program} {w : World} {K : PySem.W.Frag} {mg : Str → Option Value} {base : Heap} {k : Nat}
abbrev sPlaces : Stmt := top 2
theorem scPlaces : FnScope ["less", "more", "found", "start", "letter", "place"] ["less", "more"] (defScope sPlaces) := ⟨rfl, rfl, rfl, by decide +kernel, rfl, by decide +kernel, by decide +kernel⟩
theorem d_places (B : Blt mg) (T : Top3 K mg "places" sPlaces) : Def3 P w K mg base 1 "places" ["less", "more"] (spO K (fun _ => True) 2 placesF) := by
 refine mk_O T scPlaces (fun _ _ _ _ _ _ us hl => match us, hl with | [_, _], _ => rfl) rfl fun f cdv A outer s H E O hφ C => ⟨_, (ss_cons (s_set 2 (e_lst a_nil)) (ss_cons (s_set 3 e_int) (ss_cons (s_for C (j_new (i_str (e_var 0))) (g_name (h := 1000) 4) (ss_cons (s_set 5 (e_find2 C (e_var 1) (a_cons (e_var 4) (a_cons (e_var 3) a_nil)))) (ss_cons (s_if (t_lt (e_var 5) e_int) (ss_one (s_ret e_non)) ss_nil) (ss_cons (s_app 2 C (e_var 5)) (ss_one (s_set 3 (e_add C (e_var 5) e_int))))))) (ss_one (s_retO 2))))), fun ds Qr hn q => ?_⟩
 obtain ⟨less, more, rfl, hs, hm, q0, q1⟩ := q
 have sz := sizeLine_eq
 have hl := hs.1
 have hl2 := hm.1
 refine ⟨Nat.zero_le _, rfl, rfl, _, _, rfl, rfl, _, rfl, rfl, ?_⟩
 refine forGo_rev (fun j ρ => ∃ (acc : List Nat) (start : Nat) (o4 o5 : Option DV), ρ = [some (.im (tS less)), some (.im (tS more)), some (.own (acc.map fun p => .int (p : Nat))), some (.im (.int (start : Nat))), o4, o5] ∧ plc less more 0 [] = plc (less.drop j) more start acc ∧ acc.length ≤ j ∧ start ≤ more.length ∧ j ≤ less.length)
   ⟨[], 0, none, none, rfl, rfl, Nat.le_refl _, Nat.zero_le _, Nat.zero_le _⟩ (fun ρ ⟨acc, start0, o4, o5, e, h1, h2, h3, h4⟩ => ?_) fun j d ρ N hd hN ⟨acc, start0, o4, o5, e, h1, h2, h3, h4⟩ => ?_
 · subst e
   rw [sgs_len, List.drop_length] at h1
   exact ⟨_, rfl, q1 acc h1⟩
 · subst e
   obtain ⟨c, hc, rfl⟩ := sgs_get hd
   obtain ⟨hlt, ec⟩ := List.getElem?_eq_some_iff.mp hc
   rw [List.drop_eq_getElem_cons hlt, ec] at h1
   refine ⟨rfl, ?_⟩
   refine ⟨_, _, rfl, rfl, _, rfl, _, _, rfl, rfl, _, _, rfl, rfl, _, _, rfl, rfl, ?_⟩
   rw [find_tx h3]
   rw [show plc (c :: less.drop (j + 1)) more start0 acc = match findFrom c more start0 with | none => none | some p => plc (less.drop (j + 1)) more (p + 1) (acc ++ [p]) from rfl] at h1
   cases hf : findFrom c more start0 with
   | none =>
     rw [hf] at h1
     rw [show findV c more start0 = -1 by unfold findV; rw [hf]]
     exact ⟨_, _, rfl, rfl, _, rfl, _, rfl, q0 h1⟩
   | some p =>
     rw [hf] at h1
     rw [show findV c more start0 = (p : Int) by unfold findV; rw [hf]]
     obtain ⟨_, b, _⟩ := find_some hf
     obtain ⟨b1, _⟩ := List.getElem?_eq_some_iff.mp b
     refine ⟨_, _, rfl, rfl, _, rfl, _, rfl, ?_⟩
     rw [decide_eq_false (by omega)]
     refine iteF ⟨_, rfl, _, _, rfl, rfl, rfl, by rw [List.length_map]; omega, _, _, rfl, rfl, _, rfl, rfl, hN _ ⟨acc ++ [p], p + 1, some (.im (.str (sg c))), some (.im (.int (p : Nat))), ?_, h1, by simp; omega, b1, hlt⟩⟩
     show [_, _, some (DV.own (acc.map (fun p => PyData.int (p : Nat)) ++ [PyData.int (p : Nat)])), some (DV.im (.int ((p : Int) + 1))), _, _] = _
     rw [List.map_append]
     rfl
end
section
variable {P : Program} {w : World} {K : PySem.W.Frag} {mg : Str → Option Value} {base : Heap} {k : Nat}
abbrev sLiesUnder : Stmt := top 3
theorem scLiesUnder : FnScope ["less", "more"] ["less", "more"] (defScope sLiesUnder) := ⟨rfl, rfl, rfl, by decide +kernel, rfl, by decide +kernel, by decide +kernel⟩
theorem d_lies_under (B : Blt mg) (d_places : Def3 P w K mg base 1 "places" ["less", "more"] (spO K (fun _ => True) 2 placesF)) (T : Top3 K mg "lies_under" sLiesUnder) : Def3 P w K mg base 2 "lies_under" ["less", "more"] (spO K (fun _ => True) 2 liesUnderF) := by
 refine mk_O T scLiesUnder (fun _ _ _ _ _ _ us hl => match us, hl with | [_, _], _ => rfl) rfl fun f cdv A outer s H E O hφ C => ⟨_, (ss_one (s_ret (e_isNot (e_call C d_places (fun _ => trivial) (a_cons (e_var 0) (a_cons (e_var 1) a_nil))) e_non))), fun ds Qr hn q => ?_⟩
 obtain ⟨less, more, rfl, hs, hm, q⟩ := q
 rw [← plc_under] at q
 refine ⟨_, _, rfl, rfl, _, _, rfl, rfl, rfl, less, more, rfl, hs, hm, fun h => ⟨rfl, ?_⟩, fun ps h => ⟨rfl, ?_⟩⟩
 · rw [h] at q; exact q
 · rw [h] at q; exact q
end
theorem take_snoc {α : Type} {l : List α} {j : Nat} {x : α} (h : l[j]? = some x) : l.take (j + 1) = l.take j ++ [x] := by
 obtain ⟨hl, e⟩ := List.getElem?_eq_some_iff.mp h
 rw [List.take_succ_eq_append_getElem hl, e]
section
variable {P : Program} {w : World} {K : PySem.W.Frag} {mg : Str → Option Value} {base : Heap} {k : Nat}
abbrev sOneLiesUnder : Stmt := top 4
theorem scOneLiesUnder : FnScope ["words", "more", "less"] ["words", "more"] (defScope sOneLiesUnder) := ⟨rfl, rfl, rfl, by decide +kernel, rfl, by decide +kernel, by decide +kernel⟩
theorem d_one_lies_under (B : Blt mg) (d_lies_under : Def3 P w K mg base 2 "lies_under" ["less", "more"] (spO K (fun _ => True) 2 liesUnderF)) (T : Top3 K mg "one_lies_under" sOneLiesUnder) : Def3 P w K mg base 3 "one_lies_under" ["words", "more"] (spO K (fun _ => True) 2 oneLiesUnderF) := by
 refine mk_O T scOneLiesUnder (fun _ _ _ _ _ _ us hl => match us, hl with | [_, _], _ => rfl) rfl fun f cdv A outer s H E O hφ C => ⟨_, (ss_cons (s_for C (j_var C 0) (g_name (h := 1000) 2) (ss_one (s_if (t_val (e_call C d_lies_under (fun _ => trivial) (a_cons (e_var 2) (a_cons (e_var 1) a_nil)))) (ss_one (s_ret e_bl)) ss_nil))) (ss_one (s_ret e_bl))), fun ds Qr hn q => ?_⟩
 obtain ⟨ws, w, rfl, hs, hw, q⟩ := q
 refine ⟨_, rfl, ?_⟩
 refine forGo_rev (fun j ρ => ∃ o2, ρ = [some (.im (.list (ws.map tS))), some (.im (tS w)), o2] ∧ (ws.take j).any (fun v => L6.under v w) = false) ⟨none, rfl, rfl⟩ (fun ρ ⟨o2, e, h⟩ => ?_) fun j d ρ N hd hN ⟨o2, e, h⟩ => ?_
 · subst e
   rw [List.length_map, List.take_of_length_le (Nat.le_refl _)] at h
   rw [h] at q
   exact q
 · subst e
   rw [List.getElem?_map] at hd
   obtain ⟨v, hv, rfl⟩ := Option.map_eq_some_iff.mp hd
   have mv := List.mem_of_getElem? hv
   refine ⟨rfl, ?_⟩
   refine ⟨_, _, rfl, rfl, _, _, rfl, rfl, rfl, v, w, rfl, hs v mv, hw, _, rfl, ?_⟩
   cases c : L6.under v w with
   | true =>
     refine iteT ?_
     rw [List.any_eq_true.mpr ⟨v, mv, c⟩] at q
     exact q
   | false =>
     refine iteF (hN _ ⟨_, rfl, ?_⟩)
     rw [take_snoc hv, List.any_append, h, List.any_cons, c]
     rfl
end
section
variable {P : Program} {w : World} {K : PySem.W.Frag} {mg : Str → Option Value} {base : Heap} {k : Nat}
abbrev sLeast : Stmt := top 5
theorem scLeast : FnScope ["words", "kept", "word"] ["words"] (defScope sLeast) := ⟨rfl, rfl, rfl, by decide +kernel, rfl, by decide +kernel, by decide +kernel⟩
theorem d_least (B : Blt mg) (d_word_order : Def3 P w K mg base 1 "word_order" ["word"] (spO K (fun _ => True) 1 wordOrderF)) (d_one_lies_under : Def3 P w K mg base 3 "one_lies_under" ["words", "more"] (spO K (fun _ => True) 2 oneLiesUnderF)) (T : Top3 K mg "least" sLeast) : Def3 P w K mg base 4 "least" ["words"] (spO K (fun _ => True) 1 leastF) := by
 refine mk_O T scLeast (fun _ _ _ _ _ _ us hl => match us, hl with | [_], _ => rfl) rfl fun f cdv A outer s H E O hφ C => ⟨_, (ss_cons (s_set 1 (e_lst a_nil)) (ss_cons (s_for C (j_new (i_list C (e_sortku C B d_word_order (fun _ => trivial) (e_var 0)))) (g_name (h := 1000) 2) (ss_one (s_if (t_not (t_val (e_call C d_one_lies_under (fun _ => trivial) (a_cons (e_var 1) (a_cons (e_var 2) a_nil))))) (ss_one (s_app 1 C (e_var 2))) ss_nil))) (ss_one (s_retO 1)))), fun ds Qr hn q => ?_⟩
 obtain ⟨ws, d, rfl, hd, hs, hl, q⟩ := q
 have sz := sizeLine_eq
 refine ⟨Nat.zero_le _, rfl, _, _, rfl, rfl, ws.map tS, wkey, hd, by rw [List.length_map]; exact hl, fun x hx => ?_, _, rfl, rfl, ?_⟩
 · obtain ⟨w, hw, rfl⟩ := List.mem_map.mp hx
   exact ⟨w, rfl, (hs w hw).1, fun r hr => by show r.d = _; rw [hr, wkey_tS]⟩
 rw [sortBy_wkey]
 have hm : ∀ w ∈ sortW ws, Sml w := fun w hw => hs w (sortW_mem.mp hw)
 have hl2 := sortW_len (ws := ws)
 generalize hu : sortW ws = us at *
 refine forGo_rev (fun j ρ => ∃ o2, ρ = [some (.im d), some (.own (((us.take j).foldl keep1 []).map tS)), o2]) ⟨none, rfl⟩ (fun ρ ⟨o2, e⟩ => ?_) fun j x ρ N hd hN ⟨o2, e⟩ => ?_
 · subst e
   rw [List.length_map, List.take_of_length_le (Nat.le_refl _)]
   exact ⟨_, rfl, q⟩
 · subst e
   rw [List.getElem?_map] at hd
   obtain ⟨v, hv, rfl⟩ := Option.map_eq_some_iff.mp hd
   have mv := List.mem_of_getElem? hv
   refine ⟨rfl, ?_⟩
   refine ⟨_, _, rfl, rfl, _, _, rfl, rfl, rfl, _, v, rfl, fun w hw => ?_, hm v mv, _, rfl, ?_⟩
   · rcases kept_sub w hw with h | h
     · exact (List.not_mem_nil h).elim
     · exact hm w (List.mem_of_mem_take h)
   have e2 : (us.take (j + 1)).foldl keep1 [] = keep1 ((us.take j).foldl keep1 []) v := by rw [take_snoc hv, List.foldl_append]; rfl
   have hk := kept_len (kept := []) (ws := us.take j)
   rw [List.length_take] at hk
   simp only [List.length_nil] at hk
   cases c : ((us.take j).foldl keep1 []).any fun u => L6.under u v with
   | true =>
     have e3 : keep1 ((us.take j).foldl keep1 []) v = (us.take j).foldl keep1 [] := by unfold keep1; exact if_pos c
     refine iteF (hN _ ⟨some (.im (tS v)), ?_⟩)
     rw [e2, e3]
     rfl
   | false =>
     have e3 : keep1 ((us.take j).foldl keep1 []) v = (us.take j).foldl keep1 [] ++ [v] := if_neg (fun z => by rw [show ((us.take j).foldl keep1 []).any (fun u => L6.under u v) = true from z] at c; cases c)
     refine iteT ⟨_, rfl, _, _, rfl, rfl, rfl, by rw [List.length_map]; omega, hN _ ⟨some (.im (tS v)), ?_⟩⟩
     rw [e2, e3, List.map_append]
     rfl
end
section
variable {P : Program} {w : World} {K : PySem.W.Frag} {mg : Str → Option Value} {base : Heap} {k : Nat}
abbrev sWordL : Stmt := top 10
theorem scWordL : FnScope ["_law_deal_here", "_law_letters", "_law_most"] ["_law_deal_here", "_law_letters", "_law_most"] (defScope sWordL) := ⟨rfl, rfl, rfl, by decide +kernel, rfl, by decide +kernel, by decide +kernel⟩
theorem d_law_word (B : Blt mg) (d_law_draw : DDraw P w K mg base) (T : Top3 K mg "_law_word" sWordL) : Def3 P w K mg base 2 "_law_word" ["_law_deal_here", "_law_letters", "_law_most"] (spD K IsDeal 2 wordSF) := by
 refine mk_D T scWordL (fun _ _ _ _ _ _ us hl => match us, hl with | [_, _, _], _ => rfl) rfl fun f cdv A outer s H E O hφ C => ?_
 have hO : ∀ j : Unit, IsDeal ((fun _ : Unit => O) j) := fun _ => hφ
 refine ⟨_, (ss_one (s_ret (e_join C e_str (e_comp 1 ["_law_k", "_law_deal_here", "_law_letters", "_law_most"] C (fun _ => .of rfl (by kernel_rfl)) (i_r1 C B (a_cons (e_callO 0 C d_law_draw hO (a_cons (e_add C (e_var 2) e_int) a_nil)) a_nil)) (g_name 0) f_nil (e_idx (C.comp _ _) (e_var 2) (e_callO 1 (C.comp _ _) d_law_draw (upD hO) (a_cons (e_len (C.comp _ _) B (a_cons (e_var 2) a_nil)) a_nil))))))), fun ds Qr hn q => ?_⟩
 obtain ⟨ls, n, rfl, hw, hne, hl, ln, q⟩ := q
 have sz := sizeLine_eq
 refine ⟨_, rfl, rfl, _, _, rfl, rfl, _, rfl, rfl, _, rfl, by omega, by omega, fun k k0 k1 => ?_⟩
 obtain ⟨m, rfl⟩ := Int.eq_ofNat_of_zero_le k0
 refine ⟨_, rfl, by omega, by omega, ?_⟩
 refine comp_gen (enc2 := fun c => .str (tx [c])) (good := fun c => c ∈ ls) (fun c hc Pn Py hPn hPy => ?_) (by rw [List.length_range]; omega) fun ws hs hlp => ?_
 · refine iteT (B := Pn) (at_letter rfl rfl hne (by omega) fun c hc => hPy c hc)
 · rw [List.length_range] at hlp
   obtain ⟨ys, e1, e2, e3⟩ := join_ys ws (by omega)
   refine ⟨ys, e1, e2, ?_⟩
   rw [e3]
   exact q ws hs (by omega)
end
section
variable {P : Program} {w : World} {K : PySem.W.Frag} {mg : Str → Option Value} {base : Heap} {k : Nat}
abbrev sUnderL : Stmt := top 11
theorem scUnderL : FnScope ["_law_one", "_law_other", "_law_k", "_law_letter"] ["_law_one", "_law_other"] (defScope sUnderL) := ⟨rfl, rfl, rfl, by decide +kernel, rfl, by decide +kernel, by decide +kernel⟩
theorem d_law_under (B : Blt mg) (T : Top3 K mg "_law_under" sUnderL) : Def3 P w K mg base 1 "_law_under" ["_law_one", "_law_other"] (spO K (fun _ => True) 2 underLF) := by
 refine mk_O T scUnderL (fun _ _ _ _ _ _ us hl => match us, hl with | [_, _], _ => rfl) rfl fun f cdv A outer s H E O hφ C => ⟨_, (ss_cons (s_set 2 e_int) (ss_cons (s_for C (j_new (i_str (e_var 1))) (g_name (h := 1000) 3) (ss_one (s_if (t_w (w_and (t_lt (e_var 2) (e_len C B (a_cons (e_var 0) a_nil))) (w_and1 (t_eq C (e_idx C (e_var 0) (e_var 2)) (e_var 3))))) (ss_one (s_set 2 (e_add C (e_var 2) e_int))) ss_nil))) (ss_one (s_ret (e_eq C (e_var 2) (e_len C B (a_cons (e_var 0) a_nil))))))), fun ds Qr hn q => ?_⟩
 obtain ⟨less, more, rfl, hs, hm, q⟩ := q
 have sz := sizeLine_eq
 have hl := hs.1
 have hl2 := hm.1
 refine ⟨rfl, _, _, rfl, rfl, _, rfl, rfl, ?_⟩
 refine forGo_rev (fun j ρ => ∃ (at' : Nat) (o3 : Option DV), ρ = [some (.im (tS less)), some (.im (tS more)), some (.im (.int (at' : Nat))), o3] ∧ eats (more.take j) less = less.drop at' ∧ at' ≤ less.length ∧ j ≤ more.length)
   ⟨0, none, rfl, rfl, Nat.zero_le _, Nat.zero_le _⟩ (fun ρ ⟨a, o3, e, h1, h2, h4⟩ => ?_) fun j d ρ N hd hN ⟨a, o3, e, h1, h2, h4⟩ => ?_
 · subst e
   rw [sgs_len, List.take_length] at h1
   refine ⟨_, _, rfl, rfl, _, _, rfl, rfl, _, len_tx (by omega), _, eqF_int, ?_⟩
   rw [if_neg Bool.false_ne_true]
   unfold L6.under at q
   rw [h1] at q
   have e : (less.drop a).isEmpty = decide ((a : Int) = (less.length : Nat)) := by
     by_cases z : a = less.length
     · rw [z, List.drop_length, decide_eq_true rfl]; rfl
     · rw [decide_eq_false (by omega)]
       have : 0 < (less.drop a).length := by rw [List.length_drop]; omega
       cases hz : less.drop a with
       | nil => rw [hz] at this; cases this
       | cons _ _ => rfl
   rw [e] at q
   exact q
 · subst e
   obtain ⟨c, hc, rfl⟩ := sgs_get hd
   obtain ⟨hlt, ec⟩ := List.getElem?_eq_some_iff.mp hc
   have et : eats (more.take (j + 1)) less = eat c (less.drop a) := by
     rw [List.take_succ_eq_append_getElem hlt, ec]
     unfold eats
     rw [List.foldl_append]
     show eat c (eats (more.take j) less) = _
     rw [h1]
   refine ⟨rfl, ?_⟩
   refine ⟨_, _, rfl, rfl, _, _, rfl, rfl, _, len_tx (by omega), _, rfl, _, rfl, ?_⟩
   by_cases ha : a < less.length
   · rw [decide_eq_true (by omega)]
     refine iteT ⟨_, _, rfl, rfl, _, _, rfl, rfl, _, idx_tx ha (by omega), _, _, rfl, rfl, _, eqF_str (ok_sml ⟨by simp, fun x hx => by simp at hx; rw [hx]; exact hs.2 _ (List.getElem_mem ha)⟩) (ok_sml (w := [c]) ⟨by simp, fun x hx => by simp at hx; rw [hx, ← ec]; exact hm.2 _ (List.getElem_mem hlt)⟩), _, rfl, ?_⟩
     rw [if_neg Bool.false_ne_true, show sg c = tx [c] from rfl, tx_beq]
     rw [List.drop_eq_getElem_cons ha] at et
     by_cases z : less[a] = c
     · rw [decide_eq_true (by rw [z])]
       rw [show eat c (less[a] :: less.drop (a + 1)) = less.drop (a + 1) from if_pos z] at et
       exact iteT ⟨_, _, rfl, rfl, _, rfl, rfl, hN _ ⟨a + 1, _, rfl, et, ha, hlt⟩⟩
     · rw [decide_eq_false (by simpa using z)]
       rw [show eat c (less[a] :: less.drop (a + 1)) = less[a] :: less.drop (a + 1) from if_neg z, ← List.drop_eq_getElem_cons ha] at et
       exact iteF (hN _ ⟨a, _, rfl, et, h2, hlt⟩)
   · rw [decide_eq_false (by omega)]
     have : less.drop a = [] := List.drop_eq_nil_iff.mpr (by omega)
     rw [this] at et
     exact iteF (iteF (hN _ ⟨a, _, rfl, by rw [et, this]; rfl, h2, hlt⟩))
end
section
variable {P : Program} {w : World} {K : PySem.W.Frag} {mg : Str → Option Value} {base : Heap} {k : Nat}
abbrev sLowestL : Stmt := top 12
theorem scLowestL : FnScope ["_law_found", "_law_left", "_law_kept", "_law_size", "_law_word_here"] ["_law_found"] (defScope sLowestL) := ⟨rfl, rfl, rfl, by decide +kernel, rfl, by decide +kernel, by decide +kernel⟩
theorem d_law_lowest (B : Blt mg) (d_law_under : Def3 P w K mg base 1 "_law_under" ["_law_one", "_law_other"] (spO K (fun _ => True) 2 underLF)) (T : Top3 K mg "_law_lowest" sLowestL) : Def3 P w K mg base 2 "_law_lowest" ["_law_found"] (spO K (fun _ => True) 1 lowestF) := by
 refine mk_O T scLowestL (fun _ _ _ _ _ _ us hl => match us, hl with | [_], _ => rfl) rfl fun f cdv A outer s H E O hφ C => ⟨_, (ss_cons (s_set 1 (e_sortsett C B (e_comp 1 ["_law_word_here", "_law_found", "_law_left", "_law_kept", "_law_size", "._law_word_here"] C (fun _ => .of rfl (by kernel_rfl)) (i_list C (e_var 0)) (g_name 0) f_nil (e_tup (a_cons (e_len (C.comp _ _) B (a_cons (e_var 0) a_nil)) (a_cons (e_var 0) a_nil)))))) (ss_cons (s_set 2 (e_lst a_nil)) (ss_cons (s_dis 1 (s_for C (j_var C 1) (g_tup (h := 1000) C (gq_cons 3 (gq_cons 4 gq_nil))) (ss_one (s_if (t_eq C (e_comp 2 ["_law_many", "_law_one", "_law_found", "_law_left", "_law_kept", "_law_size", "_law_word_here"] C (fun _ => .of rfl (by kernel_rfl)) (i_list C (e_var 1)) (g_tup (C.comp _ _) (gq_cons 0 (gq_cons 1 gq_nil))) (f_one (t_w (w_and (t_ne (C.comp _ _) (e_var 1) (e_var 6)) (w_and1 (t_val (e_call (C.comp _ _) d_law_under (fun _ => trivial) (a_cons (e_var 1) (a_cons (e_var 6) a_nil)))))))) (e_var 1)) (e_lst a_nil)) (ss_one (s_app 2 C (e_var 4))) ss_nil)))) (ss_one (s_ret (e_tuplec C B (a_cons (e_var 2) a_nil))))))), fun ds Qr hn q => ?_⟩
 obtain ⟨ws, rfl, hs, hl, q⟩ := q
 have sz := sizeLine_eq
 refine ⟨_, _, rfl, rfl, _, rfl, ?_⟩
 refine comp_of (α := List Nat) (enc := tS) (e := encL) (fun w hm P hP => ⟨_, _, rfl, rfl, _, len_tx (by have := (hs w hm).1; omega), _, _, rfl, rfl, by show 2 ≤ sizeLine; omega, hP _ rfl⟩) (by omega) ?_
 refine ⟨_, shL, encL [], rfl, fun d hd => ?_, has_shL _, fun d hd => ?_, by rw [List.length_map]; exact hl, fun zs h1 h2 h3 => ?_⟩
 · obtain ⟨w, hm, rfl⟩ := List.mem_map.mp hd
   exact tupK_L (hs w hm)
 · obtain ⟨w, hm, rfl⟩ := List.mem_map.mp hd
   exact has_shL _
 obtain ⟨us, rfl, nd, mem, up⟩ := unmap_L h1 h2 h3
 have ul : us.length < 64 := by
   have h4 : us.length ≤ ws.length := TB.len_nd nd fun k hk => (mem k).mp hk
   omega
 have sm : ∀ u ∈ us, Sml u := fun u hu => hs u ((mem u).mp hu)
 refine ⟨flats_map (fun _ => rfl) us, ?_⟩
 refine ⟨Nat.zero_le _, rfl, ?_⟩
 refine .inr ⟨_, rfl, ?_⟩
 refine ⟨_, rfl, ?_⟩
 refine forGo_rev (fun j ρ => ∃ o3 o4, ρ = [some (.im (.list (ws.map tS))), some (.im (.list (us.map encL))), some (.own (((us.take j).filter (lowW us)).map tS)), o3, o4]) ⟨none, none, rfl⟩ (fun ρ ⟨o3, o4, e⟩ => ?_) fun j d ρ N hd hN ⟨o3, o4, e⟩ => ?_
 · subst e
   rw [List.length_map, List.take_of_length_le (Nat.le_refl _), low_least mem up]
   exact ⟨_, _, rfl, rfl, _, rfl, q⟩
 · subst e
   rw [List.getElem?_map] at hd
   obtain ⟨u, hu, rfl⟩ := Option.map_eq_some_iff.mp hd
   have mu := List.mem_of_getElem? hu
   have su := sm u mu
   refine ⟨rfl, _, rfl, ?_⟩
   refine ⟨_, _, rfl, rfl, _, rfl, ?_⟩
   refine comp_filG (α := List Nat) (enc := encL) (p := fun o => !decide (o = u) && L6.under o u) (e := tS) (fun o ho Pn Py hn hy => ?_) (by omega) ?_
   · have so := sm o ho
     refine ⟨_, rfl, _, _, rfl, rfl, _, _, rfl, rfl, _, eqF_str (ok_sml so) (ok_sml su), _, rfl, ?_⟩
     rw [if_pos rfl, tx_beq]
     by_cases e : o = u
     · rw [decide_eq_true e]
       exact iteF (iteF (hn (by simp [e])))
     · rw [decide_eq_false e]
       refine iteT ⟨_, _, rfl, rfl, _, _, rfl, rfl, rfl, o, u, rfl, so, su, _, rfl, ?_⟩
       cases c : L6.under o u with
       | true => exact iteT ⟨_, _, rfl, rfl, hy (by simp [e, c]) _ rfl⟩
       | false => exact iteF (hn (by simp [c]))
   · have n1 : Nice 1 (us.length * (100 + 1)) (.tuple ((us.filter fun o => !decide (o = u) && L6.under o u).map tS)) := nice_map (fun w hw => nice_tS (sm w (List.mem_filter.mp hw).1)) (List.length_filter_le _ _)
     have n2 : Nice 1 0 (.tuple []) := nice_map (α := List Nat) (f := tS) (l := []) (n := 0) (b := 0) (m := 0) (fun a h => (List.not_mem_nil h).elim) (Nat.le_refl _)
     refine ⟨Nat.zero_le _, _, eq_list n1 n2 (q := lowW us u) (hq := ?_), _, rfl, ?_⟩
     · unfold lowW
       rw [List.isEmpty_iff, List.map_eq_nil_iff]
     have e2 : (us.take (j + 1)).filter (lowW us) = (us.take j).filter (lowW us) ++ if lowW us u then [u] else [] := by
       rw [take_snoc hu, List.filter_append]
       congr 1
       cases c : lowW us u <;> simp [c]
     rw [if_neg Bool.false_ne_true]
     cases c : lowW us u with
     | true =>
       rw [c, if_pos rfl] at e2
       have lt : ((us.take j).filter (lowW us)).length ≤ us.length := Nat.le_trans (List.length_filter_le _ _) (by rw [List.length_take]; omega)
       refine iteT ⟨_, rfl, _, _, rfl, rfl, rfl, by rw [List.length_map]; omega, hN _ ⟨some (.im (.int (u.length : Nat))), some (.im (tS u)), ?_⟩⟩
       rw [e2, List.map_append]
       rfl
     | false =>
       rw [c, if_neg Bool.false_ne_true, List.append_nil] at e2
       refine iteF (hN _ ⟨some (.im (.int (u.length : Nat))), some (.im (tS u)), ?_⟩)
       rw [e2]
       rfl
end
section
variable {P : Program} {w : World} {K : PySem.W.Frag} {mg : Str → Option Value} {base : Heap} {k : Nat}
abbrev sWordsL : Stmt := top 13
theorem scWordsL : FnScope ["_law_deal_here", "_law_letters", "_law_found", "_law_k", "_law_word_here", "_law_at", "_law_more", "_law_rest"] ["_law_deal_here", "_law_letters"] (defScope sWordsL) := ⟨rfl, rfl, rfl, by decide +kernel, rfl, by decide +kernel, by decide +kernel⟩
theorem d_law_words (B : Blt mg) (d_law_draw : DDraw P w K mg base) (d_law_word : Def3 P w K mg base 2 "_law_word" ["_law_deal_here", "_law_letters", "_law_most"] (spD K IsDeal 2 wordSF)) (T : Top3 K mg "_law_words" sWordsL) : Def3 P w K mg base 3 "_law_words" ["_law_deal_here", "_law_letters"] (spD K IsDeal 1 wordsLF) := by
 refine mk_D T scWordsL (fun _ _ _ _ _ _ us hl => match us, hl with | [_, _], _ => rfl) rfl fun f cdv A outer s H E O hφ C => ?_
 have hO : ∀ j : Unit, IsDeal ((fun _ : Unit => O) j) := fun _ => hφ
 refine ⟨_, (ss_cons (s_set 2 (e_lst a_nil)) (ss_cons (s_for C (j_new (i_r1 C B (a_cons (e_callO 0 C d_law_draw hO (a_cons e_int a_nil)) a_nil))) (g_name (h := 1000) 3) (ss_cons (s_set 4 (e_callO 0 C d_law_word hO (a_cons (e_var 1) (a_cons e_int a_nil)))) (ss_cons (s_if (t_w (w_and (t_ne C (e_var 2) (e_lst a_nil)) (w_and1 (t_eq C (e_callO 0 C d_law_draw hO (a_cons e_int a_nil)) e_int)))) (ss_cons (s_set 4 (e_idx C (e_var 2) (e_callO 0 C d_law_draw hO (a_cons (e_len C B (a_cons (e_var 2) a_nil)) a_nil)))) (ss_cons (s_set 5 (e_callO 0 C d_law_draw hO (a_cons (e_add C (e_len C B (a_cons (e_var 4) a_nil)) e_int) a_nil))) (ss_cons (s_set 6 (e_callO 0 C d_law_word hO (a_cons (e_var 1) (a_cons e_int a_nil)))) (ss_cons (s_set 7 (e_slice C (e_var 4) (o_some (e_add C (e_var 5) (e_callO 0 C d_law_draw hO (a_cons e_int a_nil)))) o_none)) (ss_one (s_set 4 (e_slice C (e_add C (e_add C (e_slice C (e_var 4) o_none (o_some (e_var 5))) (e_var 6)) (e_var 7)) o_none (o_some e_int)))))))) ss_nil) (ss_one (s_ins 2 C (e_callO 0 C d_law_draw hO (a_cons (e_add C (e_len C B (a_cons (e_var 2) a_nil)) e_int) a_nil)) (e_var 4)))))) (ss_one (s_retO 2)))), fun ds Qr hn q => ?_⟩
 obtain ⟨ls, rfl, hw, hne, hl, q⟩ := q
 have sz := sizeLine_eq
 refine ⟨Nat.zero_le _, rfl, draw_k rfl (by decide) (by decide) fun m hm => ⟨_, rfl, by omega, by omega, rfl, ?_⟩⟩
 refine forGo_rev (fun j ρ => ∃ (fs : List (List Nat)) (o3 o4 o5 o6 o7 : Option DV), ρ = [some .ob, some (.im (tS ls)), some (.own (fs.map tS)), o3, o4, o5, o6, o7] ∧ fs.length = j ∧ ∀ w ∈ fs, SubW ls w ∧ w.length ≤ 6) ⟨[], none, none, none, none, none, rfl, rfl, fun w h => (List.not_mem_nil h).elim⟩ (fun ρ ⟨fs, o3, o4, o5, o6, o7, e, h1, h2⟩ => ?_) fun j d ρ N hd hN ⟨fs, o3, o4, o5, o6, o7, e, h1, h2⟩ => ?_
 · subst e
   rw [numsD_len] at h1
   exact ⟨_, rfl, q fs h2 (by omega)⟩
 · subst e
   obtain ⟨hj, rfl⟩ := numsD_get hd
   refine ⟨rfl, rfl, _, _, rfl, rfl, rfl, ls, 6, rfl, hw, hne, hl, by decide, fun v hv hv6 => ⟨rfl, ?_⟩⟩
   have n1 : Nice 1 (fs.length * (100 + 1)) (.tuple (fs.map tS)) := nice_map (fun w hw' => nice_tS (sml_low ((h2 w hw').1.low hw) (by have := (h2 w hw').2; omega))) (Nat.le_refl _)
   have n2 : Nice 1 0 (.tuple []) := nice_map (α := List Nat) (f := tS) (l := []) (n := 0) (b := 0) (m := 0) (fun a h => (List.not_mem_nil h).elim) (Nat.le_refl _)
   have nz : fs.map tS = [] ↔ fs = [] := List.map_eq_nil_iff
   dsimp only
   refine seq_mid (fun ρ => ∃ (u : List Nat) (o5 o6 o7 : Option DV), ρ = [some .ob, some (.im (tS ls)), some (.own (fs.map tS)), some (.im (.int (0 + (j : Nat)))), some (.im (tS u)), o5, o6, o7] ∧ SubW ls u ∧ u.length ≤ 6) (fun N hN => ?_) fun ρ ⟨u, o5, o6, o7, e, u1, u2⟩ => ?_
   · refine ⟨_, _, rfl, rfl, Nat.zero_le _, _, eq_list n1 n2 (q := decide (fs = [])) (hq := by rw [nz]; simp), _, rfl, ?_⟩
     rw [if_pos rfl]
     by_cases e : fs = []
     · rw [decide_eq_true e]
       exact iteF (hN _ ⟨v, _, _, _, rfl, hv, hv6⟩)
     · rw [decide_eq_false e]
       refine iteT (draw_k rfl (by decide) (by decide) fun k hk => ⟨_, eqF_int, _, rfl, ?_⟩)
       refine ite2 (fun _ => ?_) (fun _ => hN _ ⟨v, _, _, _, rfl, hv, hv6⟩)
       have hpos : 0 < fs.length := List.length_pos_iff.mpr e
       refine ⟨_, _, rfl, rfl, draw_len rfl rfl rfl (len_lst (by rw [List.length_map]; omega)) (by rw [List.length_map]; omega) (by rw [List.length_map]; omega) fun i hi => ?_⟩
       rw [List.length_map] at hi
       have hm' := h2 _ (List.getElem_mem hi)
       refine ⟨_, idx_lst (d := tS fs[i]) (by rw [List.getElem?_map, List.getElem?_eq_getElem hi]; rfl), rfl, ?_⟩
       generalize fs[i] = x at hm'
       obtain ⟨x1, x2⟩ := hm'
       refine draw_len1 rfl rfl rfl (len_tx (by omega)) (by omega) fun a ha => ⟨rfl, ?_⟩
       refine ⟨rfl, _, _, rfl, rfl, rfl, ls, 1, rfl, hw, hne, hl, by decide, fun y y1 y2 => ⟨rfl, ?_⟩⟩
       refine ⟨_, _, rfl, rfl, _, _, rfl, rfl, draw_k rfl (by decide) (by decide) fun b hb => ⟨_, rfl, _, rfl, _, sl_tx (by omega), rfl, ?_⟩⟩
       have c1 := cut_len x none (some (a : Int))
       have c2 := cut_len x (some ((a : Int) + (b : Int))) none
       refine ⟨_, _, rfl, rfl, _, _, rfl, rfl, _, rfl, _, sl_tx (by omega), _, _, rfl, rfl, _, add_tx (by omega), _, _, rfl, rfl, _, add_tx (by rw [List.length_append]; omega), _, rfl, _, sl_tx (by rw [List.length_append, List.length_append]; omega), rfl, hN _ ⟨_, _, _, _, rfl, fun c hc => ?_, ?_⟩⟩
       · rcases List.mem_append.mp (cut_mem hc) with h | h
         · rcases List.mem_append.mp h with h | h
           · exact x1 c (cut_mem h)
           · exact y1 c h
         · exact x1 c (cut_mem h)
       · rw [show ((6 : Int)) = ((6 : Nat) : Int) from rfl, cut_to, List.length_take]
         omega
   · subst e
     refine ⟨_, rfl, draw_len1 rfl rfl rfl (len_lst (by rw [List.length_map]; omega)) (by rw [List.length_map]; omega) fun k hk => ?_⟩
     rw [List.length_map] at hk
     refine ⟨_, _, rfl, rfl, k, rfl, by rw [List.length_map]; exact hk, rfl, by rw [List.length_map]; omega, hN _ ⟨fs.take k ++ u :: fs.drop k, some (.im (.int (0 + (j : Nat)))), some (.im (tS u)), o5, o6, o7, ?_, ?_, ?_⟩⟩
     · rw [← List.map_take, ← List.map_drop, List.map_append]
       rfl
     · rw [List.length_append, List.length_cons, List.length_take, List.length_drop]
       omega
     · intro w hw'
       rcases List.mem_append.mp hw' with h | h
       · exact h2 w (List.mem_of_mem_take h)
       · rcases List.mem_cons.mp h with rfl | h
         · exact ⟨u1, u2⟩
         · exact h2 w (List.mem_of_mem_drop h)
end
section
variable {P : Program} {w : World} {K : PySem.W.Frag} {mg : Str → Option Value} {base : Heap} {k : Nat}
abbrev sRightL : Stmt := top 14
theorem scRightL : FnScope ["_law_words_here", "_law_way", "_law_due", "_law_handed", "_law_found"] ["_law_words_here", "_law_way"] (defScope sRightL) := ⟨rfl, rfl, rfl, by decide +kernel, rfl, by decide +kernel, by decide +kernel⟩
theorem d_law_right (B : Blt mg) (d_least : Def3 P w K mg base 4 "least" ["words"] (spO K (fun _ => True) 1 leastF)) (d_law_lowest : Def3 P w K mg base 2 "_law_lowest" ["_law_found"] (spO K (fun _ => True) 1 lowestF)) (T : Top3 K mg "_law_right" sRightL) : Def3 P w K mg base 5 "_law_right" ["_law_words_here", "_law_way"] (spO K (fun _ => True) 2 rightF) := by
 refine mk_O T scRightL (fun _ _ _ _ _ _ us hl => match us, hl with | [_, _], _ => rfl) rfl fun f cdv A outer s H E O hφ C => ⟨_, (ss_cons (s_set 2 (e_listc C B (a_cons (e_call C d_law_lowest (fun _ => trivial) (a_cons (e_var 0) a_nil)) a_nil))) (ss_cons (s_set 3 (e_pick C (e_listc C B (a_cons (e_var 0) a_nil)) (e_tuplec C B (a_cons (e_var 0) a_nil)) (e_var 1))) (ss_cons (s_set 4 (e_call C d_least (fun _ => trivial) (a_cons (e_var 3) a_nil))) (ss_cons (s_if (t_w (w_or (t_ne C (e_repr C B (a_cons (e_var 4) a_nil)) (e_repr C B (a_cons (e_var 2) a_nil))) (w_or1 (t_ne C (e_listc C B (a_cons (e_var 3) a_nil)) (e_var 0))))) (ss_one (s_ret e_bl)) ss_nil) (ss_cons (s_app 4 C e_str) (ss_one (s_ret (e_eq C (e_repr C B (a_cons (e_call C d_least (fun _ => trivial) (a_cons (e_var 3) a_nil)) a_nil)) (e_repr C B (a_cons (e_var 2) a_nil)))))))))), fun ds Qr hn q => ?_⟩
 obtain ⟨ws, way, rfl, hway, hs, hl, q⟩ := q
 have sz := sizeLine_eq
 refine ⟨_, _, rfl, rfl, rfl, ws, rfl, hs, by omega, _, rfl, flats_map (fun _ => rfl) _, ?_⟩
 have hk : ∀ w ∈ leastOf (sortW ws), Sml w := fun w hw => by
   rcases kept_sub w hw with h | h
   · exact (List.not_mem_nil h).elim
   · exact hs w (sortW_mem.mp h)
 have kl : (leastOf (sortW ws)).length ≤ 20 := by
   have := kept_len (kept := []) (ws := sortW ws)
   rw [sortW_len] at this
   simp only [List.length_nil] at this
   exact Nat.le_trans this (by omega)
 have n1 : Nice 1 (20 * (100 + 1)) (.tuple ((leastOf (sortW ws)).map tS)) := nice_map (fun w hw => nice_tS (hk w hw)) kl
 have n2 : Nice 1 (20 * (100 + 1)) (.tuple (ws.map tS)) := nice_map (fun w hw => nice_tS (hs w hw)) hl
 obtain ⟨x1, hx1, hx2⟩ := repr_list n1
 have key : ∀ (dv : DV) (d : PyData), seeR dv = some d → (d = .list (ws.map tS) ∨ d = .tuple (ws.map tS)) → seqD (asgS 4 (calD 1 leastF (aCons (vD 3) aNil))) (seqD (ifS (orT (bD (opDE (fn2 (eqF true)) (callDE (fn1 reprF) (aCons (vD 4) aNil)) (callDE (fn1 reprF) (aCons (vD 2) aNil)))) (bD (opDE (fn2 (eqF true)) (callDE (fn1 listF) (aCons (vD 3) aNil)) (vD 0)))) (retS (cD (PyData.bool false))) fun Dd ρ => Dd.nx ρ) (seqD (appS 4 (cD (PyData.str (Str.ofString "")))) (retS (opDE (fn2 (eqF false)) (callDE (fn1 reprF) (aCons (calD 1 leastF (aCons (vD 3) aNil)) aNil)) (callDE (fn1 reprF) (aCons (vD 2) aNil)))))) { nx := fun _ => Qr (R.o PyData.none), rt := Qr } [some (.im (.list (ws.map tS))), some (.im (.int way)), some (.own ((leastOf (sortW ws)).map tS)), some dv, none] := fun dv d hdv hd => by
   have hlist : listF [d] = some (.n (ws.map tS)) := by
     rcases hd with rfl | rfl <;> rfl
   refine ⟨_, _, rfl, hdv, rfl, ws, d, rfl, hd, hs, by omega, flats_map (fun _ => rfl) _, ?_⟩
   refine ⟨_, _, rfl, rfl, _, hx1, _, _, rfl, rfl, _, hx1, _, eqF_str hx2 hx2, _, rfl, ?_⟩
   rw [if_pos rfl, beq_self_eq_true]
   refine iteF ?_
   refine ⟨_, _, rfl, hdv, _, hlist, _, _, rfl, rfl, _, eq_list n2 n2 (q := true) (hq := ⟨fun _ => rfl, fun _ => rfl⟩), _, rfl, ?_⟩
   refine iteF ?_
   refine ⟨_, rfl, rfl, by rw [List.length_map]; omega, ?_⟩
   refine ⟨_, _, rfl, hdv, rfl, ws, d, rfl, hd, hs, by omega, _, hx1, _, _, rfl, rfl, _, hx1, _, eqF_str hx2 hx2, ?_⟩
   rw [if_neg Bool.false_ne_true, beq_self_eq_true]
   exact q
 refine ⟨_, _, rfl, rfl, _, rfl, _, _, rfl, rfl, _, rfl, _, _, rfl, rfl, ?_⟩
 rcases hway with rfl | rfl
 · exact .inl ⟨rfl, flats_map (fun _ => rfl) _, key _ _ rfl (.inl rfl)⟩
 · exact .inr ⟨rfl, flats_map (fun _ => rfl) _, key _ _ rfl (.inr rfl)⟩
end
section
variable {P : Program} {w : World} {K : PySem.W.Frag} {mg : Str → Option Value} {base : Heap} {k : Nat}
abbrev sLaw : Stmt := top 15
theorem scLaw : FnScope ["_law_script", "_law_deal_here", "_law_asked", "_law_k", "_law_words_here"] ["_law_script"] (defScope sLaw) := ⟨rfl, rfl, rfl, by decide +kernel, rfl, by decide +kernel, by decide +kernel⟩
theorem law_ok (B : Blt mg) (d_law_deal : Def3 P w K mg base 1 "_law_deal" ["_law_script", "_law_base"] (spDeal K)) (d_law_draw : DDraw P w K mg base) (d_law_alphabet : Def3 P w K mg base 2 "_law_alphabet" ["_law_deal_here", "_law_many"] (spD K IsDeal 1 lettersF)) (d_law_words : Def3 P w K mg base 3 "_law_words" ["_law_deal_here", "_law_letters"] (spD K IsDeal 1 wordsLF)) (d_law_right : Def3 P w K mg base 5 "_law_right" ["_law_words_here", "_law_way"] (spO K (fun _ => True) 2 rightF)) {f₁ : Addr} {fd₁ : FuncData} (Fu : Fun K "law" "law" sLaw f₁ fd₁) : FnOk P w K mg base CX0 6 f₁ fd₁ ["_law_script"] (spLaw K) := by
 refine mk_law6 (k := 5) Fu scLaw rfl (fun f cdv A outer s H E C => ?_) (fun f cdv A outer s H E C => ?_)
 · obtain ⟨fP, fdP, G, mP, kpP, bnP⟩ := d_law_deal.ex
   exact ps_set (i := 1) (of_decide_eq_true (by kernel_rfl)) rfl (by first | exact Or.inl rfl | exact Or.inr rfl) (pe_call (k := 5) (G.mono (by decide)) (C.room ()) rfl mP kpP bnP .nil pass0 (pa_cons (pe_var (i := 0) rfl (by first | exact Or.inl rfl | exact Or.inr (Or.inl rfl) | exact Or.inr (Or.inr rfl))) (pa_cons pe_int pa_nil)))
 · have hO : ∀ j : Addr × Addr, IsDeal ((fun j : Addr × Addr => dealOb j.1 j.2) j) := fun j => dealOb_is _ _
   refine ⟨_, (ss_cons (s_set 2 (e_lst a_nil)) (ss_cons (s_for C (j_new (i_r1 C B (a_cons (e_add C e_int (e_lenS 0 C B)) a_nil))) (g_name (h := 1000) 3) (ss_cons (s_set 4 (e_callO 1 C d_law_words hO (a_cons (e_callO 1 C d_law_alphabet hO (a_cons (e_add C e_int (e_callO 1 C d_law_draw hO (a_cons e_int a_nil))) a_nil)) a_nil))) (ss_one (s_dis 4 (s_app2 2 4 C (e_callO 1 C d_law_draw hO (a_cons e_int a_nil))))))) (ss_one (s_ret (e_all C B (a_cons (e_comp 2 ["_law_words_here", "_law_way", "_law_script", "_law_deal_here", "_law_asked", "_law_k", "._law_words_here"] C (fun _ => .of rfl (by kernel_rfl)) (i_list C (e_add C (e_var 2) (e_slice C (e_var 2) o_none (o_some e_int)))) (g_tup (C.comp _ _) (gq_cons 0 (gq_cons 1 gq_nil))) f_nil (e_call (C.comp _ _) d_law_right (fun _ => trivial) (a_cons (e_var 0) (a_cons (e_var 1) a_nil)))) a_nil)))))), fun n hn => ?_⟩
   have sz := sizeLine_eq
   refine ⟨Nat.zero_le _, rfl, n, rfl, _, rfl, _, rfl, by omega, by omega, rfl, ?_⟩
   refine forGo_rev (fun j ρ => ∃ (qs : List (List (List Nat) × Nat)) (o3 o4 : Option DV), ρ = [some (.scr n), some .ob, some (.own (qs.map fun p => .tuple [.list (p.1.map tS), .int (p.2 : Nat)])), o3, o4] ∧ qs.length = j ∧ ∀ p ∈ qs, (∀ w ∈ p.1, Sml w) ∧ p.1.length ≤ 20 ∧ p.2 < 2) ⟨[], none, none, rfl, rfl, fun w h => (List.not_mem_nil h).elim⟩ (fun ρ ⟨qs, o3, o4, e, h1, h2⟩ => ?_) fun j d ρ N hd hN ⟨qs, o3, o4, e, h1, h2⟩ => ?_
   · subst e
     have ql : qs.length ≤ 100 := by rw [h1, numsD_len]; omega
     have ec : cutL (qs.map fun p : List (List Nat) × Nat => PyData.tuple [.list (p.1.map tS), .int (p.2 : Nat)]) none (some ((1 : Nat) : Int)) = (qs.take 1).map fun p => PyData.tuple [.list (p.1.map tS), .int (p.2 : Nat)] := by
       rw [cut_to, List.map_take]
     refine ⟨_, _, rfl, rfl, _, _, rfl, rfl, _, rfl, _, rfl, _, add_lst ?_, _, rfl, ?_⟩
     · rw [show ((1 : Int)) = ((1 : Nat) : Int) from rfl, ec, List.length_map, List.length_map, List.length_take]
       omega
     show compGo _ _ _ _ _ _ (_ ++ cutL _ none (some ((1 : Nat) : Int))) []
     rw [ec, ← List.map_append]
     have hz : (qs ++ qs.take 1).length ≤ sizeLine := by rw [List.length_append, List.length_take]; omega
     have good : ∀ p ∈ qs ++ qs.take 1, (∀ w ∈ p.1, Sml w) ∧ p.1.length ≤ 20 ∧ p.2 < 2 := fun p hp => (List.mem_append.mp hp).elim (h2 p) fun h => h2 p (List.mem_of_mem_take h)
     generalize qs ++ qs.take 1 = l at good hz
     refine comp_ofG (e := fun _ => .bool true) (fun p hp P hP => ?_) gT_mono hz ?_
     · obtain ⟨g1, g2, g3⟩ := good p hp
       refine ⟨_, rfl, iteT (B := False) ⟨_, _, rfl, rfl, _, _, rfl, rfl, rfl, p.1, (p.2 : Nat), rfl, by omega, g1, g2, hP _ rfl⟩⟩
     · refine ⟨l.map fun _ => true, by rw [List.map_map]; rfl, ?_⟩
       rw [if_neg Bool.false_ne_true, List.all_map]
       show R.o (PyData.bool (l.all fun _ => true)) = _
       simp
   · subst e
     obtain ⟨hj, rfl⟩ := numsD_get hd
     refine ⟨rfl, rfl, rfl, draw_k rfl (by decide) (by decide) fun k hk => ⟨_, rfl, rfl, _, rfl, by omega, by omega, fun ls hls hlow hris => ?_⟩⟩
     have hne : ls ≠ [] := fun e => by rw [e] at hls; simp at hls; omega
     refine ⟨rfl, ls, rfl, hlow, hne, by omega, fun ws w1 w2 => ⟨flats_map (fun _ => rfl) _, ?_⟩⟩
     refine .inr ⟨_, rfl, _, _, rfl, rfl, draw_k rfl (by decide) (by decide) fun c hc => ⟨rfl, (by rw [List.length_map]; omega), hN _ ⟨qs ++ [(ws, c)], some (.im (.int (0 + (j : Nat)))), some (.im (.list (ws.map tS))), ?_, by rw [List.length_append, h1]; rfl, fun p hp => ?_⟩⟩⟩
     · rw [List.map_append]
       rfl
     · rcases List.mem_append.mp hp with hp | hp
       · exact h2 p hp
       · rw [List.mem_singleton.mp hp]
         exact ⟨fun w hw => sml_low ((w1 w hw).1.low hlow) (by have := (w1 w hw).2; omega), w2, by omega⟩
end
end L13
namespace L13
open PySem PySem.Spec
open PyProof.Rows hiding St
open L2 L3
theorem all_mk {l : PySem.W.OpenLaw} {w : World} {K : PySem.W.Frag} {h : Heap} {mg : Str → Option Value} {fa : Addr} (X : K.In h) (G : h.Ns mainGlobals mg) (hfa : mg "law" = some (.ref fa))
   {f1 f2 f3 f4 f5 f6 f7 f8 f9 f10 f11 f12 f13 f14 : Addr}
   {od1 an1 od2 an2 od3 an3 od4 an4 od5 an5 od6 an6 od7 an7 od8 an8 od9 an9 od10 an10 od11 an11 od12 an12 od13 an13 od14 an14 : Option Addr}
   {sl1 sl2 sl3 sl4 sl5 sl6 sl7 sl8 sl9 sl10 sl11 sl12 sl13 sl14 : Array (Option Value)}
   {oc1 kV1 dc1 pm1 cd1 ct1 oc2 kV2 dc2 pm2 cd2 ct2 oc3 kV3 dc3 pm3 cd3 ct3 oc4 kV4 dc4 pm4 cd4 ct4 oc5 kV5 dc5 pm5 cd5 ct5 oc6 kV6 dc6 pm6 cd6 ct6 oc7 kV7 dc7 pm7 cd7 ct7 oc8 kV8 dc8 pm8 cd8 ct8 oc9 kV9 dc9 pm9 cd9 ct9 oc10 kV10 dc10 pm10 cd10 ct10 oc11 kV11 dc11 pm11 cd11 ct11 oc12 kV12 dc12 pm12 cd12 ct12 oc13 kV13 dc13 pm13 cd13 ct13 oc14 kV14 dc14 pm14 cd14 ct14 : Value}
   (a1 : PySem.W.nsIn K mainGlobals "word_order" = some (some (.ref f1))) (l1 : K.lookup f1 = some ⟨oc1, od1, .func (PySem.W.fnOf "word_order" "word_order" (defArgs sWordOrder) (defBody sWordOrder) (defScope sWordOrder) .none kV1 dc1 pm1 an1 cd1 ct1), sl1⟩) (c1 : PySem.W.codeIn K cd1 "word_order" = true) (k1 : PySem.W.keepIn K (.ref f1) = true)
   (a2 : PySem.W.nsIn K mainGlobals "places" = some (some (.ref f2))) (l2 : K.lookup f2 = some ⟨oc2, od2, .func (PySem.W.fnOf "places" "places" (defArgs sPlaces) (defBody sPlaces) (defScope sPlaces) .none kV2 dc2 pm2 an2 cd2 ct2), sl2⟩) (c2 : PySem.W.codeIn K cd2 "places" = true) (k2 : PySem.W.keepIn K (.ref f2) = true)
   (a3 : PySem.W.nsIn K mainGlobals "lies_under" = some (some (.ref f3))) (l3 : K.lookup f3 = some ⟨oc3, od3, .func (PySem.W.fnOf "lies_under" "lies_under" (defArgs sLiesUnder) (defBody sLiesUnder) (defScope sLiesUnder) .none kV3 dc3 pm3 an3 cd3 ct3), sl3⟩) (c3 : PySem.W.codeIn K cd3 "lies_under" = true) (k3 : PySem.W.keepIn K (.ref f3) = true)
   (a4 : PySem.W.nsIn K mainGlobals "one_lies_under" = some (some (.ref f4))) (l4 : K.lookup f4 = some ⟨oc4, od4, .func (PySem.W.fnOf "one_lies_under" "one_lies_under" (defArgs sOneLiesUnder) (defBody sOneLiesUnder) (defScope sOneLiesUnder) .none kV4 dc4 pm4 an4 cd4 ct4), sl4⟩) (c4 : PySem.W.codeIn K cd4 "one_lies_under" = true) (k4 : PySem.W.keepIn K (.ref f4) = true)
   (a5 : PySem.W.nsIn K mainGlobals "least" = some (some (.ref f5))) (l5 : K.lookup f5 = some ⟨oc5, od5, .func (PySem.W.fnOf "least" "least" (defArgs sLeast) (defBody sLeast) (defScope sLeast) .none kV5 dc5 pm5 an5 cd5 ct5), sl5⟩) (c5 : PySem.W.codeIn K cd5 "least" = true) (k5 : PySem.W.keepIn K (.ref f5) = true)
   (a6 : PySem.W.nsIn K mainGlobals "_law_deal" = some (some (.ref f6))) (l6 : K.lookup f6 = some ⟨oc6, od6, .func (PySem.W.fnOf "_law_deal" "_law_deal" (defArgs sDeal) (defBody sDeal) (defScope sDeal) .none kV6 dc6 pm6 an6 cd6 ct6), sl6⟩) (c6 : PySem.W.codeIn K cd6 "_law_deal" = true) (k6 : PySem.W.keepIn K (.ref f6) = true)
   (a7 : PySem.W.nsIn K mainGlobals "_law_draw" = some (some (.ref f7))) (l7 : K.lookup f7 = some ⟨oc7, od7, .func (PySem.W.fnOf "_law_draw" "_law_draw" (defArgs sDraw) (defBody sDraw) (defScope sDraw) .none kV7 dc7 pm7 an7 cd7 ct7), sl7⟩) (c7 : PySem.W.codeIn K cd7 "_law_draw" = true) (k7 : PySem.W.keepIn K (.ref f7) = true)
   (a8 : PySem.W.nsIn K mainGlobals "_law_alphabet" = some (some (.ref f8))) (l8 : K.lookup f8 = some ⟨oc8, od8, .func (PySem.W.fnOf "_law_alphabet" "_law_alphabet" (defArgs sAlphabet) (defBody sAlphabet) (defScope sAlphabet) .none kV8 dc8 pm8 an8 cd8 ct8), sl8⟩) (c8 : PySem.W.codeIn K cd8 "_law_alphabet" = true) (k8 : PySem.W.keepIn K (.ref f8) = true)
   (a9 : PySem.W.nsIn K mainGlobals "_law_word" = some (some (.ref f9))) (l9 : K.lookup f9 = some ⟨oc9, od9, .func (PySem.W.fnOf "_law_word" "_law_word" (defArgs sWordL) (defBody sWordL) (defScope sWordL) .none kV9 dc9 pm9 an9 cd9 ct9), sl9⟩) (c9 : PySem.W.codeIn K cd9 "_law_word" = true) (k9 : PySem.W.keepIn K (.ref f9) = true)
   (a10 : PySem.W.nsIn K mainGlobals "_law_under" = some (some (.ref f10))) (l10 : K.lookup f10 = some ⟨oc10, od10, .func (PySem.W.fnOf "_law_under" "_law_under" (defArgs sUnderL) (defBody sUnderL) (defScope sUnderL) .none kV10 dc10 pm10 an10 cd10 ct10), sl10⟩) (c10 : PySem.W.codeIn K cd10 "_law_under" = true) (k10 : PySem.W.keepIn K (.ref f10) = true)
   (a11 : PySem.W.nsIn K mainGlobals "_law_lowest" = some (some (.ref f11))) (l11 : K.lookup f11 = some ⟨oc11, od11, .func (PySem.W.fnOf "_law_lowest" "_law_lowest" (defArgs sLowestL) (defBody sLowestL) (defScope sLowestL) .none kV11 dc11 pm11 an11 cd11 ct11), sl11⟩) (c11 : PySem.W.codeIn K cd11 "_law_lowest" = true) (k11 : PySem.W.keepIn K (.ref f11) = true)
   (a12 : PySem.W.nsIn K mainGlobals "_law_words" = some (some (.ref f12))) (l12 : K.lookup f12 = some ⟨oc12, od12, .func (PySem.W.fnOf "_law_words" "_law_words" (defArgs sWordsL) (defBody sWordsL) (defScope sWordsL) .none kV12 dc12 pm12 an12 cd12 ct12), sl12⟩) (c12 : PySem.W.codeIn K cd12 "_law_words" = true) (k12 : PySem.W.keepIn K (.ref f12) = true)
   (a13 : PySem.W.nsIn K mainGlobals "_law_right" = some (some (.ref f13))) (l13 : K.lookup f13 = some ⟨oc13, od13, .func (PySem.W.fnOf "_law_right" "_law_right" (defArgs sRightL) (defBody sRightL) (defScope sRightL) .none kV13 dc13 pm13 an13 cd13 ct13), sl13⟩) (c13 : PySem.W.codeIn K cd13 "_law_right" = true) (k13 : PySem.W.keepIn K (.ref f13) = true)
   (a14 : PySem.W.nsIn K mainGlobals "law" = some (some (.ref f14))) (l14 : K.lookup f14 = some ⟨oc14, od14, .func (PySem.W.fnOf "law" "law" (defArgs sLaw) (defBody sLaw) (defScope sLaw) .none kV14 dc14 pm14 an14 cd14 ct14), sl14⟩) (c14 : PySem.W.codeIn K cd14 "law" = true) (k14 : PySem.W.keepIn K (.ref f14) = true)
   (z1 : PySem.W.nsIn K mainGlobals "len" = some none)
   (z2 : PySem.W.nsIn K mainGlobals "all" = some none)
   (z3 : PySem.W.nsIn K mainGlobals "any" = some none)
   (z4 : PySem.W.nsIn K mainGlobals "sorted" = some none)
   (z5 : PySem.W.nsIn K mainGlobals "min" = some none)
   (z6 : PySem.W.nsIn K mainGlobals "max" = some none)
   (z7 : PySem.W.nsIn K mainGlobals "repr" = some none)
   (z8 : PySem.W.nsIn K mainGlobals "int" = some none)
   (z9 : PySem.W.nsIn K mainGlobals "list" = some none)
   (z10 : PySem.W.nsIn K mainGlobals "tuple" = some none)
   (z11 : PySem.W.nsIn K mainGlobals "range" = some none)
   (z12 : PySem.W.nsIn K mainGlobals "set" = some none)
   (z13 : PySem.W.nsIn K mainGlobals "isinstance" = some none)
   (z14 : PySem.W.nsIn K mainGlobals "enumerate" = some none)
   (z15 : PySem.W.nsIn K mainGlobals "zip" = some none)
   (z16 : PySem.W.nsIn K mainGlobals "reversed" = some none)
   (z17 : PySem.W.nsIn K mainGlobals "str" = some none)
   (z18 : PySem.W.nsIn K mainGlobals "sum" = some none)
   (z19 : PySem.W.nsIn K mainGlobals "dict" = some none)
   : ∃ fd : FuncData, (∀ (s : Shared) (v : Value), BindsTo s fd ⟨[v], []⟩ [("_law_script", v)]) ∧ ∀ base : Heap, K.In base → base.Ns mainGlobals mg → FnOk l.prog w K mg base CX0 6 fa fd ["_law_script"] (spLaw K) := by
 have T1 : Top3 K mg "word_order" sWordOrder := ⟨f1, _, fun_mk (st := sWordOrder) l1 c1 k1, PySem.W.mg_of X G a1⟩
 have T2 : Top3 K mg "places" sPlaces := ⟨f2, _, fun_mk (st := sPlaces) l2 c2 k2, PySem.W.mg_of X G a2⟩
 have T3 : Top3 K mg "lies_under" sLiesUnder := ⟨f3, _, fun_mk (st := sLiesUnder) l3 c3 k3, PySem.W.mg_of X G a3⟩
 have T4 : Top3 K mg "one_lies_under" sOneLiesUnder := ⟨f4, _, fun_mk (st := sOneLiesUnder) l4 c4 k4, PySem.W.mg_of X G a4⟩
 have T5 : Top3 K mg "least" sLeast := ⟨f5, _, fun_mk (st := sLeast) l5 c5 k5, PySem.W.mg_of X G a5⟩
 have T6 : Top3 K mg "_law_deal" sDeal := ⟨f6, _, fun_mk (st := sDeal) l6 c6 k6, PySem.W.mg_of X G a6⟩
 have T7 : Top3 K mg "_law_draw" sDraw := ⟨f7, _, fun_mk (st := sDraw) l7 c7 k7, PySem.W.mg_of X G a7⟩
 have T8 : Top3 K mg "_law_alphabet" sAlphabet := ⟨f8, _, fun_mk (st := sAlphabet) l8 c8 k8, PySem.W.mg_of X G a8⟩
 have T9 : Top3 K mg "_law_word" sWordL := ⟨f9, _, fun_mk (st := sWordL) l9 c9 k9, PySem.W.mg_of X G a9⟩
 have T10 : Top3 K mg "_law_under" sUnderL := ⟨f10, _, fun_mk (st := sUnderL) l10 c10 k10, PySem.W.mg_of X G a10⟩
 have T11 : Top3 K mg "_law_lowest" sLowestL := ⟨f11, _, fun_mk (st := sLowestL) l11 c11 k11, PySem.W.mg_of X G a11⟩
 have T12 : Top3 K mg "_law_words" sWordsL := ⟨f12, _, fun_mk (st := sWordsL) l12 c12 k12, PySem.W.mg_of X G a12⟩
 have T13 : Top3 K mg "_law_right" sRightL := ⟨f13, _, fun_mk (st := sRightL) l13 c13 k13, PySem.W.mg_of X G a13⟩
 have T14 : Top3 K mg "law" sLaw := ⟨f14, _, fun_mk (st := sLaw) l14 c14 k14, PySem.W.mg_of X G a14⟩
 have B : Blt mg := ⟨PySem.W.mg_none_of X G z1, PySem.W.mg_none_of X G z2, PySem.W.mg_none_of X G z3, PySem.W.mg_none_of X G z4, PySem.W.mg_none_of X G z5, PySem.W.mg_none_of X G z6, PySem.W.mg_none_of X G z7, PySem.W.mg_none_of X G z8, PySem.W.mg_none_of X G z9, PySem.W.mg_none_of X G z10, PySem.W.mg_none_of X G z11, PySem.W.mg_none_of X G z12, PySem.W.mg_none_of X G z13, PySem.W.mg_none_of X G z14, PySem.W.mg_none_of X G z15, PySem.W.mg_none_of X G z16, PySem.W.mg_none_of X G z17, PySem.W.mg_none_of X G z18, PySem.W.mg_none_of X G z19⟩
 have e := hfa.symm.trans (PySem.W.mg_of X G a14)
 cases e
 refine ⟨PySem.W.fnOf "law" "law" (defArgs sLaw) (defBody sLaw) (defScope sLaw) .none kV14 dc14 pm14 an14 cd14 ct14, fun s v => .of_eq rfl, fun base _ _ => ?_⟩
 have e1 := d_word_order (P := l.prog) (w := w) (base := base) B T1
 have e2 := d_places (P := l.prog) (w := w) (base := base) B T2
 have e3 := d_lies_under B e2 T3
 have e4 := d_one_lies_under B e3 T4
 have e5 := d_least B e1 e4 T5
 have e6 := d_law_deal (P := l.prog) (w := w) (base := base) B T6
 have e7 := d_law_draw (P := l.prog) (w := w) (base := base) B T7
 have e8 := d_law_alphabet B e7 T8
 have e9 := d_law_word B e7 T9
 have e10 := d_law_under (P := l.prog) (w := w) (base := base) B T10
 have e11 := d_law_lowest B e10 T11
 have e12 := d_law_words B e7 e9 T12
 have e13 := d_law_right B e5 e11 T13
 exact law_ok B e6 e7 e8 e12 e13 (fun_mk (st := sLaw) l14 c14 k14)
theorem walk {l : PySem.W.OpenLaw} {q : Program} {loose : List Str} {XP : (Str → Option Value) → Heap → Prop} {YP : World → Heap → Prop} {d : DefRec} {K : Params → PySem.W.Frag} (hn : l.most = some 63) (hdf : d.params.defaults = [])
   (hY : ∀ (w : World) (h : Heap), YP w h → (K w.params).In h)
   (F : ∀ (w : World) (mg : Str → Option Value) (fa : Addr) (h : Heap), (K w.params).In h → h.Ns mainGlobals mg → mg d.name = some (.ref fa) →
     ∃ fd : FuncData, (∀ (s : Shared) (u : Value), BindsTo s fd ⟨[u], []⟩ [("_law_script", u)]) ∧ ∀ base : Heap, (K w.params).In base → base.Ns mainGlobals mg → FnOk l.prog w (K w.params) mg base CX0 6 fa fd ["_law_script"] (spLaw (K w.params))) :
   PySem.W.WalkO q loose XP YP l.row.toRowW d [] (fun f vs => PySem.call f vs) :=
 L2.walk_of (n := 63) (k := 6) (x := "_law_script") (CX := fun _ => CX0) (sp := fun w => spLaw (K w.params)) hn (by decide) hdf ⟨rfl, by decide, by decide, rfl⟩ hY F (fun _ _ a ns hl _ hS => ⟨a, ns, rfl, hS, hl, fun _ => rfl⟩) fun _ _ _ _ _ z => z
end L13
open PySem PySem.W PyProof.Rows
set_option maxRecDepth 100000 in
set_option maxHeartbeats 0 in
theorem PySem.Challenge.cw_lostpost_k13_least_words_holds : PySem.Challenge.rw_lostpost_k13_least_words.Holds := by
 w_on; o_law; k_head; (case hw => w_witness2)
 k_fill
 refine L13.walk (l := PySem.Challenge.rw_lostpost_k13_least_words) rfl rfl (fun w h Y => PySem.W.kIn_of Y) ?F
 case F =>
   intro w mg fa h KX G hmg
   refine' L13.all_mk KX G hmg ?a1 ?l1 ?c1 ?k1 ?a2 ?l2 ?c2 ?k2 ?a3 ?l3 ?c3 ?k3 ?a4 ?l4 ?c4 ?k4 ?a5 ?l5 ?c5 ?k5 ?a6 ?l6 ?c6 ?k6 ?a7 ?l7 ?c7 ?k7 ?a8 ?l8 ?c8 ?k8 ?a9 ?l9 ?c9 ?k9 ?a10 ?l10 ?c10 ?k10 ?a11 ?l11 ?c11 ?k11 ?a12 ?l12 ?c12 ?k12 ?a13 ?l13 ?c13 ?k13 ?a14 ?l14 ?c14 ?k14 ?z1 ?z2 ?z3 ?z4 ?z5 ?z6 ?z7 ?z8 ?z9 ?z10 ?z11 ?z12 ?z13 ?z14 ?z15 ?z16 ?z17 ?z18 ?z19
   (case a1 => k_is); (case l1 => k_is); (case c1 => k_is); (case k1 => k_is)
   (case a2 => k_is); (case l2 => k_is); (case c2 => k_is); (case k2 => k_is)
   (case a3 => k_is); (case l3 => k_is); (case c3 => k_is); (case k3 => k_is)
   (case a4 => k_is); (case l4 => k_is); (case c4 => k_is); (case k4 => k_is)
   (case a5 => k_is); (case l5 => k_is); (case c5 => k_is); (case k5 => k_is)
   (case a6 => k_is); (case l6 => k_is); (case c6 => k_is); (case k6 => k_is)
   (case a7 => k_is); (case l7 => k_is); (case c7 => k_is); (case k7 => k_is)
   (case a8 => k_is); (case l8 => k_is); (case c8 => k_is); (case k8 => k_is)
   (case a9 => k_is); (case l9 => k_is); (case c9 => k_is); (case k9 => k_is)
   (case a10 => k_is); (case l10 => k_is); (case c10 => k_is); (case k10 => k_is)
   (case a11 => k_is); (case l11 => k_is); (case c11 => k_is); (case k11 => k_is)
   (case a12 => k_is); (case l12 => k_is); (case c12 => k_is); (case k12 => k_is)
   (case a13 => k_is); (case l13 => k_is); (case c13 => k_is); (case k13 => k_is)
   (case a14 => k_is); (case l14 => k_is); (case c14 => k_is); (case k14 => k_is)
   (case z1 => k_is)
   (case z2 => k_is)
   (case z3 => k_is)
   (case z4 => k_is)
   (case z5 => k_is)
   (case z6 => k_is)
   (case z7 => k_is)
   (case z8 => k_is)
   (case z9 => k_is)
   (case z10 => k_is)
   (case z11 => k_is)
   (case z12 => k_is)
   (case z13 => k_is)
   (case z14 => k_is)
   (case z15 => k_is)
   (case z16 => k_is)
   (case z17 => k_is)
   (case z18 => k_is)
   (case z19 => k_is)

