import PyProof.Rows.All
import Wide.All
import OpenK.AllK
import Wide.FinOn
import Lean
import PyProof.EqAt
import PyProof.EqKinds
import PyProof.TupleCall
import PyProof.StationsW
import PyProof.ExcClass2
import PyProof.ExcBaseAll.ValueError
import PyProof.InstStoreFacts
import PyProof.RulesAs
import PyProof.NsDelKeeps
import PyProof.P3Eq
import PyProof.P3In
import PyProof.ReprRoads
import PyProof.StrWalks
import PyProof.ListRange
import PyProof.ListStr
import PyProof.ConsumeWalk
import PyProof.MinMaxWalk
import PyProof.NeData
import PyProof.SliceStr2
import PyProof.Rows.SortStr
import PyProof.Rows.StrJoin2
import PyProof.Rows.SeqMore
import PyProof.SeqI3
import PyProof.StrLawsIn
import PyProof.ListMulRoad
import PyProof.StrOps2
import PyProof.ReprBulk
import PySem.Challenge.RW_lostpost_k51_machines_as_grammars
import PyProof.Rows.SortShellK
import KE.KSortTup
import PyProof.Rows.SetFrom
import PyProof.CollectIter
import PyProof.CollectStr
import PyProof.FactsAll.set
import KE.KDictOf
import PyProof.AttrMissHeap
import PyProof.DictWalks
import KE.KDictLaws
import PyProof.Rows.SortRuns
import PySem.SetTable
import PyProof.SetScanFacts
import PyProof.TupleKey
import PyProof.IsRules
import PyProof.Draws
import KE.KRevIter
import PyProof.EnumStmt
import PyProof.JoinWalk
import KE.BitLaws
import PyProof.TupleOfSeq
import PyProof.DictRoadsH
import PyProof.StrCalls6
import PyProof.StrLawsReplace
set_option Elab.async false
set_option linter.all false
set_option maxRecDepth 100000
namespace L2
open PySem PySem.Spec PyProof.Rows
abbrev Key := Sum Int Str
def keyIs : Key → Value → Bool
 | .inl k, v => Value.isInt k v
 | .inr x, v => Value.isStrOf x v
def keyH (w : World) : Key → Int
 | .inl k => hashInt k
 | .inr x => hashStr w x
theorem keyIs_shape : ∀ {k : Key} {v : Value}, keyIs k v = true → (∃ i t, k = Sum.inl i ∧ v = Value.int i t) ∨ (∃ x t, k = Sum.inr x ∧ v = Value.str x t)
 | .inl i, v, h => by
   obtain ⟨t, e⟩ := Value.isInt_shape (k := i) (v := v) h
   exact .inl ⟨i, t, rfl, e⟩
 | .inr x, v, h => by
   obtain ⟨t, e⟩ := Value.isStrOf_shape (x := x) (v := v) h
   exact .inr ⟨x, t, rfl, e⟩
theorem keyIs_int (i : Int) (t : Tok) : keyIs (.inl i) (.int i t) = true := by simp [keyIs, Value.isInt]
theorem keyIs_str (x : Str) (t : Tok) : keyIs (.inr x) (.str x t) = true := by simp [keyIs, Value.isStrOf]
theorem key_ll (a b : Int) : decide ((Sum.inl a : Key) = Sum.inl b) = (a == b) := by
 by_cases e : a = b
 · subst e; simp
 · have h : ¬ (Sum.inl a : Key) = Sum.inl b := fun q => e (Sum.inl.inj q)
   rw [decide_eq_false h]
   exact (beq_eq_false_iff_ne.mpr e).symm
theorem key_rr (a b : Str) : decide ((Sum.inr a : Key) = Sum.inr b) = decide (a = b) := by
 by_cases e : a = b
 · subst e; simp
 · have h : ¬ (Sum.inr a : Key) = Sum.inr b := fun q => e (Sum.inr.inj q)
   rw [decide_eq_false h, decide_eq_false e]
theorem key_lr (a : Int) (b : Str) : decide ((Sum.inl a : Key) = Sum.inr b) = false := decide_eq_false (fun q => nomatch q)
theorem key_rl (a : Str) (b : Int) : decide ((Sum.inr a : Key) = Sum.inl b) = false := decide_eq_false (fun q => nomatch q)
def mixKind (prog : Program) (w : World) : PySem.KeyKind prog w Key where
 is := keyIs
 hash := keyH w
 inj := fun v a b ha hb => by
   rcases keyIs_shape ha with ⟨i, t, rfl, rfl⟩ | ⟨x, t, rfl, rfl⟩
   · rcases keyIs_shape hb with ⟨j, u, rfl, e⟩ | ⟨y, u, rfl, e⟩
     · injection e with e1 _; rw [e1]
     · exact nomatch e
   · rcases keyIs_shape hb with ⟨j, u, rfl, e⟩ | ⟨y, u, rfl, e⟩
     · exact nomatch e
     · injection e with e1 _; rw [e1]
 byValue := fun k v h => by
   rcases keyIs_shape h with ⟨i, t, rfl, rfl⟩ | ⟨x, t, rfl, rfl⟩ <;> rfl
 pyHash := fun hv h => by
   rcases keyIs_shape hv with ⟨i, t, rfl, rfl⟩ | ⟨x, t, rfl, rfl⟩
   · exact wpAny_pyHash_int h
   · exact wpAny_pyHash_str h
 eqBool := fun hu hv h => by
   rcases keyIs_shape hu with ⟨i, t, rfl, rfl⟩ | ⟨x, t, rfl, rfl⟩
   · rcases keyIs_shape hv with ⟨j, u, rfl, rfl⟩ | ⟨y, u, rfl, rfl⟩
     · rw [key_ll] at h; exact wpAny_eqBool_int h
     · rw [key_lr] at h; exact SeqAt.EqAt.int_str i t y u _ _ _ _ h
   · rcases keyIs_shape hv with ⟨j, u, rfl, rfl⟩ | ⟨y, u, rfl, rfl⟩
     · rw [key_rl] at h; exact SeqAt.EqAt.str_int x t j u _ _ _ _ h
     · rw [key_rr] at h; exact wpAny_eqBool_str h
 «strs» := fun k x t v h => by
   rcases keyIs_shape h with ⟨i, u, rfl, e⟩ | ⟨y, u, rfl, e⟩
   · exact nomatch e
   · injection e with e1 _
     subst e1
     cases v <;> rfl
theorem mixKind_int (prog : Program) (w : World) (i : Int) (t : Tok) : (mixKind prog w).is (.inl i) (.int i t) = true := keyIs_int i t
theorem mixKind_str (prog : Program) (w : World) (x : Str) (t : Tok) : (mixKind prog w).is (.inr x) (.str x t) = true := keyIs_str x t
end L2
namespace L2
open PySem PySem.Spec PyProof.Rows
inductive V where
 | non | bl (b : Bool) | int (i : Int) | str (x : Str) | byt (b : Array UInt8) | flt (b : UInt64) | ref (a : Addr) | ty (n : String)
 deriving DecidableEq
def RelV : V → Value → Prop
 | .non, u => u = Value.none
 | .bl b, u => u = Value.bool b
 | .int i, u => ∃ t, u = Value.int i t
 | .str x, u => ∃ t, u = Value.str x t
 | .byt b, u => ∃ t, u = Value.bytes b t
 | .flt b, u => ∃ t, u = Value.float b t
 | .ref a, u => u = Value.ref a
 | .ty n, u => u = Value.type n
abbrev Vals : List V → List Value → Prop := Paired RelV
theorem Vals.length {xs : List V} {us : List Value} (r : Vals xs us) : xs.length = us.length := Paired.length r
theorem Vals.get : ∀ {xs : List V} {us : List Value} {i : Nat} {x : V}, Vals xs us → xs[i]? = some x → ∃ u, us[i]? = some u ∧ RelV x u
 | _, _, _, _, .nil, e => by simp at e
 | _, _, 0, _, .cons r _, e => by simp at e; subst e; exact ⟨_, rfl, r⟩
 | _, _, i + 1, x, .cons _ t, e => by
   obtain ⟨u, h1, h2⟩ := Vals.get (i := i) (x := x) t (by simpa using e)
   exact ⟨u, by simpa using h1, h2⟩
theorem Vals.append : ∀ {xs ys : List V} {us ws : List Value}, Vals xs us → Vals ys ws → Vals (xs ++ ys) (us ++ ws)
 | _, _, _, _, .nil, s => s
 | _, _, _, _, .cons r t, s => .cons r (Vals.append t s)
theorem Vals.take : ∀ {xs : List V} {us : List Value} (n : Nat), Vals xs us → Vals (xs.take n) (us.take n)
 | _, _, 0, _ => .nil
 | _, _, _ + 1, .nil => .nil
 | _, _, n + 1, .cons r t => .cons r (Vals.take n t)
theorem Vals.drop : ∀ {xs : List V} {us : List Value} (n : Nat), Vals xs us → Vals (xs.drop n) (us.drop n)
 | _, _, 0, r => r
 | _, _, _ + 1, .nil => .nil
 | _, _, n + 1, .cons _ t => Vals.drop n t
def RelO : Option V → Option Value → Prop
 | some v, some u => RelV v u
 | none, none => True
 | _, _ => False
def KV {κ : Type} : List (κ × V) → List (κ × Value) → Prop := Paired fun (p : κ × V) (q : κ × Value) => p.1 = q.1 ∧ RelV p.2 q.2
def kV : Key → V
 | .inl i => .int i
 | .inr x => .str x
inductive HO where
   | lst (xs : List V)
   | tup (xs : List V)
   | dK (kvs : List (Key × V)) | dT (kvs : List (List Key × V))
   | set (S : Int → Bool) (n : Nat)
   | ins (C dx : Addr) (fs : List (Str × V))
   | own (x : Addr)
   | xd (fs : List (Str × V))
   | met (f x : Addr)
   | rng (lo hi : Int)
   | frz (o : Obj) (u : HO)
   | tbl (ps : Array Value)
   | ext (φ : Heap → Prop)
abbrev Hp := Addr → Option HO
def upd (H : Hp) (a : Addr) (o : HO) : Hp := fun b => if b = a then some o else H b
theorem upd_same {H : Hp} {a : Addr} {o : HO} : upd H a o a = some o := by unfold upd; rw [if_pos rfl]
theorem upd_ne {H : Hp} {a b : Addr} {o : HO} (h : b ≠ a) : upd H a o b = H b := by unfold upd; rw [if_neg h]
theorem ne_of {H : Hp} {a b : Addr} {o u : HO} (h : H a = some o) (h' : H b = some u) (d : o ≠ u) : a ≠ b := by
 intro e; subst e; rw [h] at h'; exact d (Option.some.inj h')
theorem ne_of_none {H : Hp} {a b : Addr} {o : HO} (h : H a = some o) (h' : H b = none) : a ≠ b := by
 intro e; subst e; rw [h] at h'; cases h'
section
variable (P : Program) (w : World)
def ObjOk (H : Hp) (h : Heap) (a : Addr) : HO → Prop
 | .lst xs => xs.length ≤ sizeLine ∧ ∃ (its : List Value) (n : Nat), Vals xs its ∧ h.get? a = some { cls := .type "list", data := .seq its.toArray n }
 | .tup xs => xs.length ≤ sizeLine ∧ ∃ its : List Value, Vals xs its ∧ IsTup h a its.toArray
 | .dK kvs => kvs.length ≤ sizeLine ∧ (a == sysModules) = false ∧ ∃ vs, KV kvs vs ∧ h.DictOf (mixKind P w) a vs
 | .dT kvs => kvs.length ≤ sizeLine ∧ (a == sysModules) = false ∧ ∃ xs : List (List Key × Addr × Value),
     Paired (fun (p : List Key × V) (q : List Key × Addr × Value) => p.1 = q.1 ∧ H q.2.1 = some (.tup (p.1.map kV)) ∧ RelV p.2 q.2.2) kvs xs ∧
     ∃ o es ep, h.get? a = some o ∧ o.ExactDict ∧ o.data = .dict es ep ∧ es.toList = xs.map (entryOfKey (tupleKind (mixKind P w))) ∧ (xs.map (·.1)).Nodup
 | .set S n => h.SetOf (intKind P w) a S n
 | .ins C dx fs => H dx = some (.own a) ∧ fs.length ≤ 1000 ∧ dx ≠ a ∧ h.get? a = some (PySem.W.instObj C dx) ∧
     ∃ mA, h.Ns1 dx mA ∧ (∀ f, RelO (fs.lookup f) (mA f)) ∧ PySem.Within mA (fs.map (·.1))
 | .own _ => ∃ o, h.get? a = some o
 | .xd fs => ∃ mA, h.Ns1 a mA ∧ ∀ f, RelO (fs.lookup f) (mA f)
 | .rng lo hi => ∃ t u v, h.get? a = some { cls := .type "range", data := .fields #[.int lo t, .int hi u, .int 1 v] }
 | .frz o u => h.get? a = some o ∧ ObjOk H h a u
 | .tbl ps => h.get? a = some { cls := .none, data := .fields ps }
 | .met f x => h.get? a = some (PySem.W.methodObj (.ref f) (.ref x))
 | .ext φ => φ h ∧ (∃ o, h.get? a = some o) ∧ ∀ h1 h2 : Heap, φ h1 → (∀ o, h1.get? a = some o → h2.get? a = some o) → φ h2
def HOk (H : Hp) (h : Heap) : Prop := ∀ a o, H a = some o → ObjOk P w H h a o
end
section
variable {P : Program} {w : World} {H H' : Hp} {h h' : Heap} {a : Addr} {o : HO}
theorem ObjOk.lt (x : ObjOk P w H h a o) : a < h.objs.size := by
 cases o with
 | lst xs => obtain ⟨_, _, _, _, e⟩ := x; exact Heap.lt_size e
 | tup xs => obtain ⟨_, _, _, p⟩ := x; exact p.lt
 | dK kvs => obtain ⟨_, _, _, _, o, _, _, e, _⟩ := x; exact Heap.lt_size e
 | dT kvs => obtain ⟨_, _, _, _, o, _, _, e, _⟩ := x; exact Heap.lt_size e
 | set S n => obtain ⟨o, _, _, _, e, _⟩ := x; exact Heap.lt_size e
 | ins C dx fs => obtain ⟨_, _, _, e, _⟩ := x; exact Heap.lt_size e
 | own y => obtain ⟨_, e⟩ := x; exact Heap.lt_size e
 | xd fs => obtain ⟨_, ⟨_, _, _, e, _⟩, _⟩ := x; exact Heap.lt_size e
 | rng lo hi => obtain ⟨_, _, _, e⟩ := x; exact Heap.lt_size e
 | frz ob u => obtain ⟨e, _⟩ := x; exact Heap.lt_size e
 | tbl ps => exact Heap.lt_size (show h.get? a = some _ from x)
 | met f y => exact Heap.lt_size (show h.get? a = some _ from x)
 | ext φ => obtain ⟨_, ⟨_, e⟩, _⟩ := x; exact Heap.lt_size e
theorem Paired.mapP {α β : Type} {F G : α → β → Prop} : ∀ {l₁ : List α} {l₂ : List β}, Paired F l₁ l₂ → (∀ a b, F a b → G a b) → Paired G l₁ l₂
 | _, _, .nil, _ => .nil
 | _, _, .cons r t, f => .cons (f _ _ r) (Paired.mapP t f)
theorem ObjOk.stay (x : ObjOk P w H h a o) (k : ∀ b u, (b = a ∨ H b = some (.own a)) → h.get? b = some u → h'.get? b = some u)
   (ho : ∀ b, H b = some (.own a) → H' b = some (.own a)) (ht : ∀ b xs, H b = some (.tup xs) → H' b = some (.tup xs)) : ObjOk P w H' h' a o := by
 induction o with
 | lst xs => obtain ⟨z, its, n, r, e⟩ := x; exact ⟨z, its, n, r, k _ _ (.inl rfl) e⟩
 | tup xs => obtain ⟨z, its, r, ob, e, c⟩ := x; exact ⟨z, its, r, ob, k _ _ (.inl rfl) e, c⟩
 | dK kvs => obtain ⟨z, y, vs, r, ob, es, ep, e, c⟩ := x; exact ⟨z, y, vs, r, ob, es, ep, k _ _ (.inl rfl) e, c⟩
 | dT kvs =>
   obtain ⟨z, y, xs, r, ob, es, ep, e, c⟩ := x
   exact ⟨z, y, xs, Paired.mapP r fun p q z => ⟨z.1, ht _ _ z.2.1, z.2.2⟩, ob, es, ep, k _ _ (.inl rfl) e, c⟩
 | set S n => obtain ⟨ob, es, ep, t, e, c⟩ := x; exact ⟨ob, es, ep, t, k _ _ (.inl rfl) e, c⟩
 | ins C dx fs =>
   obtain ⟨d, z, ne, e, mA, ⟨od, es, ep, e2, c⟩, r⟩ := x
   exact ⟨ho _ d, z, ne, k _ _ (.inl rfl) e, mA, ⟨od, es, ep, k _ _ (.inr d) e2, c⟩, r⟩
 | own y => obtain ⟨ob, e⟩ := x; exact ⟨ob, k _ _ (.inl rfl) e⟩
 | xd fs => obtain ⟨mA, ⟨od, es, ep, e, c⟩, r⟩ := x; exact ⟨mA, ⟨od, es, ep, k _ _ (.inl rfl) e, c⟩, r⟩
 | rng lo hi => obtain ⟨t, u, v, e⟩ := x; exact ⟨t, u, v, k _ _ (.inl rfl) e⟩
 | frz ob u ih => obtain ⟨e, q⟩ := x; exact ⟨k _ _ (.inl rfl) e, ih q⟩
 | tbl ps =>
   have e : h.get? a = some { cls := .none, data := .fields ps } := x
   show h'.get? a = some { cls := .none, data := .fields ps }
   exact k a _ (.inl rfl) e
 | met f y =>
   have e : h.get? a = some (PySem.W.methodObj (.ref f) (.ref y)) := x
   show h'.get? a = some (PySem.W.methodObj (.ref f) (.ref y))
   exact k a _ (.inl rfl) e
 | ext φ => obtain ⟨p, ⟨o, e⟩, st⟩ := x; exact ⟨st _ _ p fun o q => k _ _ (.inl rfl) q, ⟨o, k _ _ (.inl rfl) e⟩, st⟩
theorem HOk.lt (x : HOk P w H h) (e : H a = some o) : a < h.objs.size := (x a o e).lt
theorem HOk.fresh (x : HOk P w H h) (e : h.objs.size ≤ a) : H a = none := by
 cases q : H a with
 | none => rfl
 | some u => exact absurd (Nat.lt_of_lt_of_le (x.lt q) e) (Nat.lt_irrefl _)
theorem HOk.kept (x : HOk P w H h) (k : ∀ b u, h.get? b = some u → h'.get? b = some u) : HOk P w H h' := fun a o e =>
 (x a o e).stay (fun b u _ q => k b u q) (fun _ q => q) fun _ _ q => q
theorem HOk.laid (x : HOk P w H h) (k : ∀ b u, h.get? b = some u → h'.get? b = some u) (hp : h.objs.size ≤ a) (new : ObjOk P w (upd H a o) h' a o) : HOk P w (upd H a o) h' := fun b u e => by
 have hn := x.fresh hp
 by_cases hb : b = a
 · subst hb; rw [upd_same] at e; cases e; exact new
 · rw [upd_ne hb] at e
   exact (x b u e).stay (fun c v _ q => k c v q) (fun c q => by rw [upd_ne (ne_of_none q hn)]; exact q) fun c xs q => by rw [upd_ne (ne_of_none q hn)]; exact q
end
def Rd (H : Hp) (a : Addr) (u : HO) : Prop := H a = some u ∨ ∃ o, H a = some (.frz o u)
theorem Rd.ok {P : Program} {w : World} {H : Hp} {h : Heap} {a : Addr} {u : HO} (r : Rd H a u) (x : HOk P w H h) : ObjOk P w H h a u := by
 rcases r with r | ⟨o, r⟩
 · exact x a u r
 · obtain ⟨_, q⟩ := x a _ r
   exact q
def Mut : Option HO → Prop
 | some (.lst _) => True
 | some (.dK _) => True
 | some (.dT _) => True
 | some (.set _ _) => True
 | some (.ins _ _ _) => True
 | some (.ext _) => True
 | _ => False
section
variable {P : Program} {w : World} {H : Hp} {h h' : Heap} {x e : Addr} {o' : HO}
theorem HOk.write (ok : HOk P w H h) (mu : Mut (H x)) (he : e = x ∨ H e = some (.own x)) (k : ∀ b u, b ≠ e → h.get? b = some u → h'.get? b = some u) (heo : ∃ u, h'.get? e = some u)
   (new : ObjOk P w (upd H x o') h' x o') : HOk P w (upd H x o') h' := fun b u q => by
 have nown : ∀ c y, H c = some (.own y) → c ≠ x := fun c y r z => by subst z; rw [r] at mu; exact mu
 have ntup : ∀ c xs, H c = some (.tup xs) → c ≠ x := fun c xs r z => by subst z; rw [r] at mu; exact mu
 by_cases hb : b = x
 · subst hb; rw [upd_same] at q; cases q; exact new
 · rw [upd_ne hb] at q
   by_cases hbe : b = e
   · have q' : H b = some (.own x) := by
       rcases he with z | z
       · exact absurd (hbe.trans z) hb
       · rw [hbe]; exact z
     rw [q] at q'; cases q'
     obtain ⟨v, hv⟩ := heo
     exact ⟨v, by rw [hbe]; exact hv⟩
   · refine (ok b u q).stay (fun c v hc r => k c v ?_ r) (fun c r => by rw [upd_ne (nown c b r)]; exact r) fun c xs r => by rw [upd_ne (ntup c xs r)]; exact r
     rcases hc with rfl | hc
     · exact hbe
     · rintro rfl
       rcases he with z | z
       · exact nown c b hc z
       · rw [hc] at z; cases z; exact hb rfl
end
structure Un (fs ex : List Addr) (H H' : Hp) (h h' : Heap) : Prop where
 keep : ∀ b o, h.get? b = some o → H b = none → b ∉ fs → b ∉ ex → h'.get? b = some o
 slot : ∀ b o, h.get? b = some o → H b = none → b ∈ fs → b ∉ ex → ∃ sl, h'.get? b = some { o with slots := sl }
 free : ∀ b o, h.get? b = some o → H b = none → b ∉ ex → H' b = none
 there : ∀ b o, h.get? b = some o → b ∉ ex → ∃ o', h'.get? b = some o'
 tups : ∀ b xs, H b = some (.tup xs) → H' b = some (.tup xs)
 frzs : ∀ b o u, H b = some (.frz o u) → H' b = some (.frz o u)
 tbls : ∀ b ps, H b = some (.tbl ps) → ∃ more, H' b = some (.tbl (ps ++ more))
section
variable {fs fs' ex ex' : List Addr} {H H1 H2 : Hp} {h h1 h2 h' : Heap} {a x e : Addr} {o : HO}
theorem Un.any (u : Un fs ex H H1 h h1) {b : Addr} {ob : Obj} (q : h.get? b = some ob) (n : H b = none) (hx : b ∉ ex) : ∃ sl, h1.get? b = some { ob with slots := sl } := by
 by_cases hb : b ∈ fs
 · exact u.slot b ob q n hb hx
 · exact ⟨ob.slots, u.keep b ob q n hb hx⟩
theorem Un.kept (k : ∀ b u, h.get? b = some u → h'.get? b = some u) : Un fs ex H H h h' :=
 ⟨fun b ob q _ _ _ => k b ob q, fun b ob q _ _ _ => ⟨ob.slots, k b ob q⟩, fun _ _ _ n _ => n, fun b ob q _ => ⟨ob, k b ob q⟩, fun _ _ q => q, fun _ _ _ q => q, fun _ ps q => ⟨#[], by rw [q]; simp⟩⟩
theorem Un.refl : Un fs ex H H h h := Un.kept fun _ _ q => q
theorem Un.laid (k : ∀ b u, h.get? b = some u → h'.get? b = some u) (hp : h.objs.size ≤ a) (hn : H a = none) : Un fs ex H (upd H a o) h h' where
 keep := fun b u q _ _ _ => k b u q
 slot := fun b u q _ _ _ => ⟨u.slots, k b u q⟩
 free := fun b u q n _ => by rw [upd_ne (Nat.ne_of_lt (Nat.lt_of_lt_of_le (Heap.lt_size q) hp))]; exact n
 there := fun b u q _ => ⟨u, k b u q⟩
 tups := fun b xs q => by rw [upd_ne (ne_of_none q hn)]; exact q
 frzs := fun b u xs q => by rw [upd_ne (ne_of_none q hn)]; exact q
 tbls := fun b ps q => ⟨#[], by rw [upd_ne (ne_of_none q hn), q]; simp⟩
theorem Un.write (mu : Mut (H x)) (he : e = x ∨ H e = some (.own x)) (k : ∀ b u, b ≠ e → h.get? b = some u → h'.get? b = some u) (heo : ∃ u, h'.get? e = some u) : Un fs ex H (upd H x o) h h' := by
 have hx : ∀ b, H b = none → b ≠ x := fun b n z => by subst z; rw [n] at mu; exact mu
 have hb : ∀ b, H b = none → b ≠ e := fun b n z => by
   subst z
   rcases he with r | r
   · exact hx b n r
   · rw [n] at r; cases r
 have hm : ∀ b u, H b = some u → ¬ Mut (some u) → b ≠ x := fun b u q nm z => by subst z; rw [q] at mu; exact nm mu
 refine ⟨fun b u q n _ _ => k b u (hb b n) q, fun b u q n _ _ => ⟨u.slots, k b u (hb b n) q⟩, fun b u q n _ => by rw [upd_ne (hx b n)]; exact n, fun b u q _ => ?_,
   fun b xs q => by rw [upd_ne (hm b _ q fun z => z)]; exact q, fun b u xs q => by rw [upd_ne (hm b _ q fun z => z)]; exact q, fun b ps q => ⟨#[], by rw [upd_ne (hm b _ q fun z => z), q]; simp⟩⟩
 by_cases hbe : b = e
 · subst hbe; exact heo
 · exact ⟨u, k b u hbe q⟩
end
def trk (h : Heap) (H : Hp) : List Addr := (List.range h.objs.size).filter fun a => (H a).isSome
def hidT (h : Heap) (H : Hp) : Heap := PySem.W.hideAll h (trk h H)
theorem hidT_size (h : Heap) (H : Hp) : (hidT h H).objs.size = h.objs.size := PySem.W.hideAll_size _ _
theorem hidT_get {h : Heap} {H : Hp} {b : Addr} {o : Obj} (e : h.get? b = some o) (n : H b = none) : (hidT h H).get? b = some o :=
 PySem.W.hideAll_get _ e fun hm => by
   have q : (H b).isSome = true := (List.mem_filter.mp hm).2
   rw [n] at q; simp at q
theorem of_hidT {h : Heap} {H : Hp} {b : Addr} {o : Obj} (e : (hidT h H).get? b = some o) : h.get? b = some o ∧ H b = none := by
 have e' : h.get? b = some o := PySem.W.of_hideAll (trk h H) e
 refine ⟨e', ?_⟩
 cases q : H b with
 | none => rfl
 | some x =>
   have hm : b ∈ trk h H := List.mem_filter.mpr ⟨List.mem_range.mpr (Heap.lt_size e'), by simp [q]⟩
   have z : (hidT h H).get? b = none := PySem.W.hideAll_none (trk h H) hm
   rw [z] at e; cases e
end L2
namespace L2
open PySem PySem.Spec PyProof.Rows
structure Mod (K : PySem.W.Frag) (mg : Str → Option Value) (base : Heap) : Prop where
 kin : K.In base
 glob : base.Ns mainGlobals mg
 blt : ∃ mb, base.Ns builtinsNs mb ∧ ∀ x : Str, x ≠ "__name__" → mb x = bootBuiltins x
 nolimit : base.NoLimit
structure Cx where
 prog : Program
 w : World
 K : PySem.W.Frag
 mg : Str → Option Value
 base : Heap
 A : Around
 N : List Str
 s₀ : Shared
 H₀ : Hp
 env : Env
 outer : List Env
 stack : List Env
 ex : List Addr
 fn : Str → Bool
 calm : Bool
 pn : List (Addr × Obj)
 xe : Value → Shared → Prop
def frs (l : List Env) : List Addr := l.filterMap (·.frame)
abbrev Cx.fs (X : Cx) : List Addr := frs X.outer
def Vis (sc : Scope) (x : Str) : Prop := sc.names.lookup x = some .local ∨ sc.names.lookup x = some .cell ∨ sc.names.lookup x = some .free
def Loc (sc : Scope) (x : Str) : Prop := sc.names.lookup x = some .local ∨ sc.names.lookup x = some .cell
def Look (env : Env) (h : Heap) (m : Str → Option Value) (x : Str) (u : Value) : Prop :=
 (env.kindOf x = some .local ∧ m x = some u) ∨ ((env.kindOf x = some .cell ∨ env.kindOf x = some .free) ∧ ∃ c, env.cells.lookup x = some c ∧ h.IsCell c (some u))
structure Cx.Ok (X : Cx) : Prop where
 mod : Mod X.K X.mg X.base
 kind : X.env.scope.kind = .function
 glob : X.env.globals = mainGlobals
 blt : X.env.builtins = builtinsNs
 above : X.s₀.heap.objs.size ≤ X.env.locals
 inj : ∀ x y c, X.env.cells.lookup x = some c → X.env.cells.lookup y = some c → x = y
 has : ∀ x, (X.env.kindOf x = some .cell ∨ X.env.kindOf x = some .free) → ∃ c, X.env.cells.lookup x = some c
 cab : ∀ x c, X.fn x = true → X.env.cells.lookup x = some c → X.s₀.heap.objs.size ≤ c
 hd : X.calm = true → X.A.handled = none
 frames : X.A.frames = some X.stack
 stk : X.stack = X.outer ∨ (X.stack = X.env :: X.outer ∧ X.env.frame = some X.env.locals)
 exf : ∀ b ∈ X.ex, b ≠ X.env.locals ∧ ∀ x c, X.env.cells.lookup x = some c → c ≠ b
 bs : ∀ b o, X.base.get? b = some o → X.s₀.heap.get? b = some o ∧ X.H₀ b = none
 bsz : X.base.objs.size ≤ X.s₀.heap.objs.size
 noex : ∀ b o, X.base.get? b = some o → b ∉ X.ex
 exfs : ∀ b ∈ X.ex, b ∉ X.fs
 funs : X.s₀.heap.FunFrames X.base X.outer
 frf : ∀ b ∈ X.fs, X.H₀ b = none
structure Inv (X : Cx) (pins : List (Addr × Obj)) (σ : List (Option V)) (H : Hp) (s : Shared) : Prop where
 ok : X.Ok
 os : s.os = X.s₀.os
 bare : AllBare s.gens
 base : Un X.fs X.ex X.H₀ H X.s₀.heap s.heap
 loc : ∃ m, s.heap.Ns X.env.locals m ∧ ∀ (i : Nat) (x : Str) (v : V), X.N[i]? = some x → σ[i]? = some (some v) → Vis X.env.scope x → ∃ u, RelV v u ∧ Look X.env s.heap m x u
 cell : ∀ x c, X.env.cells.lookup x = some c → ∃ v, s.heap.IsCell c v
 free : H X.env.locals = none
 freeC : ∀ x c, X.env.cells.lookup x = some c → H c = none
 pin : ∀ p ∈ X.pn ++ pins, s.heap.get? p.1 = some p.2 ∧ H p.1 = none ∧ p.1 ≠ X.env.locals ∧ p.1 ∉ X.fs ∧ ∀ v, p.2.data ≠ .cell v
 hok : HOk X.prog X.w H s.heap
 len : σ.length = X.N.length
section
variable {X : Cx} {pins : List (Addr × Obj)} {σ : List (Option V)} {H H' : Hp} {s : Shared} {h' : Heap}
theorem Cx.Ok.nofr (ok : X.Ok) {b : Addr} {o : Obj} (e : X.base.get? b = some o) : b ∉ X.fs := fun hb => by
 have := (ok.funs.mem hb).1
 rw [e] at this; cases this
theorem Inv.bs (I : Inv X pins σ H s) : ∀ b o, X.base.get? b = some o → s.heap.get? b = some o ∧ H b = none := fun b o e =>
 ⟨I.base.keep b o (I.ok.bs b o e).1 (I.ok.bs b o e).2 (I.ok.nofr e) (I.ok.noex b o e), I.base.free b o (I.ok.bs b o e).1 (I.ok.bs b o e).2 (I.ok.noex b o e)⟩
theorem Inv.bk (I : Inv X pins σ H s) : ∀ b o, X.base.get? b = some o → s.heap.get? b = some o := fun b o e => (I.bs b o e).1
theorem Inv.mod (I : Inv X pins σ H s) : Mod X.K X.mg X.base := I.ok.mod
theorem Inv.kIn (I : Inv X pins σ H s) : X.K.In s.heap := I.ok.mod.kin.keeps I.bk
theorem Inv.lt (I : Inv X pins σ H s) : X.env.locals < s.heap.objs.size := let ⟨_, hn, _⟩ := I.loc; hn.lt
theorem Inv.sz (I : Inv X pins σ H s) : X.s₀.heap.objs.size ≤ s.heap.objs.size := Nat.le_trans I.ok.above (Nat.le_of_lt I.lt)
theorem Inv.nofs (I : Inv X pins σ H s) {a : Addr} (h : s.heap.objs.size ≤ a) : a ∉ X.fs := fun hb => by
 obtain ⟨_, o, ho, _⟩ := I.ok.funs.mem hb
 exact absurd (Nat.lt_of_lt_of_le (Heap.lt_size ho) (Nat.le_trans I.sz h)) (Nat.lt_irrefl _)
theorem Inv.cne (I : Inv X pins σ H s) : ∀ x c, X.env.cells.lookup x = some c → c ≠ X.env.locals := fun x c e z => by
 obtain ⟨v, o, ho, hd⟩ := I.cell x c e
 obtain ⟨m, ⟨o', es, ep, ho', hd', _⟩, _⟩ := I.loc
 rw [z, ho'] at ho; cases ho; rw [hd'] at hd; cases hd
theorem Inv.funs (I : Inv X pins σ H s) : s.heap.FunFrames X.base X.outer := by
 have all : ∀ (l : List Env), (∀ b ∈ frs l, b ∈ X.fs) → X.s₀.heap.FunFrames X.base l → s.heap.FunFrames X.base l := by
   intro l
   induction l with
   | nil => intro _ _; trivial
   | cons env r ih =>
     intro hs hl
     obtain ⟨hk, ⟨L, o, hf, hn, ho, hd⟩, hr⟩ := hl
     have hL : L ∈ X.fs := hs L (by unfold frs; rw [List.filterMap_cons, hf]; exact List.mem_cons_self)
     obtain ⟨sl, e⟩ := I.base.slot L o ho (I.ok.frf L hL) hL fun z => I.ok.exfs L z hL
     exact ⟨hk, ⟨L, _, hf, hn, e, hd⟩, ih (fun b hb => hs b (by unfold frs; rw [List.filterMap_cons, hf]; exact List.mem_cons_of_mem _ hb)) hr⟩
 exact all X.outer (fun _ hb => hb) I.ok.funs
theorem Inv.stack (I : Inv X pins σ H s) : s.heap.FunFrames X.base X.stack := by
 rcases I.ok.stk with e | ⟨e, hf⟩
 · rw [e]; exact I.funs
 · rw [e]
   obtain ⟨m, hn, _⟩ := I.loc
   refine .cons (by rw [I.ok.kind]; decide) hf hn ?_ I.funs
   exact Heap.get?_none_of_le (Nat.le_trans I.ok.bsz I.ok.above)
theorem Inv.stkSub (I : Inv X pins σ H s) : ∀ b ∈ frs X.stack, b ∈ X.env.locals :: X.fs := fun b hb => by
 rcases I.ok.stk with e | ⟨e, hf⟩
 · rw [e] at hb; exact List.mem_cons_of_mem _ hb
 · rw [e] at hb
   unfold frs at hb
   rw [List.filterMap_cons, hf] at hb
   exact hb
theorem Inv.stkFree (I : Inv X pins σ H s) : ∀ b ∈ frs X.stack, H b = none := fun b hb => by
 rcases List.mem_cons.mp (I.stkSub b hb) with e | hb
 · rw [e]; exact I.free
 · obtain ⟨_, o, ho, _⟩ := I.ok.funs.mem hb
   exact I.base.free b o ho (I.ok.frf b hb) fun z => I.ok.exfs b z hb
theorem Inv.step {g' : Array GenState} {t' : Nat} {d' : Drawn} {ch : List Addr} (I : Inv X pins σ H s)
   (hch : ∀ b ∈ ch, (b ∈ X.ex ∨ X.s₀.heap.objs.size ≤ b) ∧ b ≠ X.env.locals ∧ (∀ x c, X.env.cells.lookup x = some c → c ≠ b) ∧ ∀ p ∈ X.pn ++ pins, p.1 ≠ b)
   (keep : ∀ b o, b ≠ X.env.locals → b ∉ X.fs → b ∉ ch → s.heap.get? b = some o → H b = none → h'.get? b = some o)
   (slot : ∀ b o, b ≠ X.env.locals → b ∈ X.fs → b ∉ ch → s.heap.get? b = some o → H b = none → ∃ sl, h'.get? b = some { o with slots := sl }) (free : ∀ b o, b ∉ ch → s.heap.get? b = some o → H b = none → H' b = none)
   (there : ∀ b o, b ∉ ch → s.heap.get? b = some o → ∃ o', h'.get? b = some o')
   (tups : ∀ b xs, H b = some (.tup xs) → H' b = some (.tup xs)) (frzs : ∀ b o u, H b = some (.frz o u) → H' b = some (.frz o u)) (tbls : ∀ b ps, H b = some (.tbl ps) → ∃ more, H' b = some (.tbl (ps ++ more)))
   (ns : ∀ m, s.heap.Ns X.env.locals m → h'.Ns X.env.locals m) (hok : HOk X.prog X.w H' h') (hg : AllBare g') :
   Inv X pins σ H' { s with heap := h', gens := g', drawn := d', toks := t' } := by
 have neL : ∀ b o, X.s₀.heap.get? b = some o → b ≠ X.env.locals := fun b o e => Nat.ne_of_lt (Nat.lt_of_lt_of_le (Heap.lt_size e) I.ok.above)
 have neC : ∀ b o, X.s₀.heap.get? b = some o → b ∉ X.ex → b ∉ ch := fun b o e hx hb => by
   rcases (hch b hb).1 with z | z
   · exact hx z
   · exact absurd (Nat.lt_of_lt_of_le (Heap.lt_size e) z) (Nat.lt_irrefl _)
 have cellK : ∀ x c, X.env.cells.lookup x = some c → ∀ v, s.heap.IsCell c v → h'.IsCell c v := fun x c e v ⟨o, ho, hd⟩ => by
   have nch : c ∉ ch := fun z => (hch c z).2.2.1 x c e rfl
   by_cases hc : c ∈ X.fs
   · obtain ⟨sl, q⟩ := slot c o (I.cne x c e) hc nch ho (I.freeC x c e)
     exact ⟨_, q, hd⟩
   · exact ⟨o, keep c o (I.cne x c e) hc nch ho (I.freeC x c e), hd⟩
 refine ⟨I.ok, I.os, hg, ⟨fun b o e n hb hx => ?_, fun b o e n hb hx => ?_, fun b o e n hx => ?_, fun b o e hx => ?_, fun b xs e => tups b xs (I.base.tups b xs e), fun b o xs e => frzs b o xs (I.base.frzs b o xs e), fun b ps e => ?_⟩, ?_, fun x c e => ?_, ?_, fun x c e => ?_, fun p hp => ?_, hok, I.len⟩
 · exact keep b o (neL b o e) hb (neC b o e hx) (I.base.keep b o e n hb hx) (I.base.free b o e n hx)
 · obtain ⟨sl, e1⟩ := I.base.slot b o e n hb hx
   obtain ⟨sl', e2⟩ := slot b _ (neL b o e) hb (neC b o e hx) e1 (I.base.free b o e n hx)
   exact ⟨sl', e2⟩
 · obtain ⟨o', e1⟩ := I.base.there b o e hx
   exact free b o' (neC b o e hx) e1 (I.base.free b o e n hx)
 · obtain ⟨o', e1⟩ := I.base.there b o e hx
   exact there b o' (neC b o e hx) e1
 · obtain ⟨m1, e1⟩ := I.base.tbls b ps e
   obtain ⟨m2, e2⟩ := tbls b _ e1
   exact ⟨m1 ++ m2, by rw [e2, Array.append_assoc]⟩
 · obtain ⟨m, hn, hl⟩ := I.loc
   refine ⟨m, ns m hn, fun i x v e1 e2 e3 => ?_⟩
   obtain ⟨u, r, l⟩ := hl i x v e1 e2 e3
   refine ⟨u, r, ?_⟩
   rcases l with l | ⟨k, c, e, z⟩
   · exact .inl l
   · exact .inr ⟨k, c, e, cellK x c e _ z⟩
 · obtain ⟨v, z⟩ := I.cell x c e
   exact ⟨v, cellK x c e v z⟩
 · obtain ⟨m, ⟨o, _, _, ho, _⟩, _⟩ := I.loc
   exact free _ o (fun z => (hch _ z).2.1 rfl) ho I.free
 · obtain ⟨v, o, ho, hd⟩ := I.cell x c e
   exact free c o (fun z => (hch c z).2.2.1 x c e rfl) ho (I.freeC x c e)
 · obtain ⟨e, n, ne, nf, d⟩ := I.pin p hp
   have nch : p.1 ∉ ch := fun z => (hch p.1 z).2.2.2 p hp rfl
   exact ⟨keep p.1 p.2 ne nf nch e n, free p.1 p.2 nch e n, ne, nf, d⟩
theorem Inv.un {t' : Nat} (I : Inv X pins σ H s) (u : Un X.fs [] H H' s.heap h') (hok : HOk X.prog X.w H' h') : Inv X pins σ H' { s with heap := h', toks := t' } := by
 obtain ⟨m, ⟨o, es, ep, ho, r⟩, _⟩ := id I.loc
 obtain ⟨sl, hL⟩ := u.any ho I.free (by simp)
 exact I.step (g' := s.gens) (d' := s.drawn) (ch := []) (fun _ z => nomatch z) (fun b o _ hb _ e n => u.keep b o e n hb (by simp)) (fun b o _ hb _ e n => u.slot b o e n hb (by simp)) (fun b o _ e n => u.free b o e n (by simp)) (fun b o _ e => u.there b o e (by simp)) u.tups u.frzs u.tbls (fun m' hm => by
   obtain ⟨o', es', ep', ho', r'⟩ := hm
   rw [ho] at ho'; cases ho'
   exact ⟨_, es', ep', hL, r'⟩) hok I.bare
theorem Inv.call {g' : Array GenState} {t' : Nat} {d' : Drawn} {ch : List Addr} (I : Inv X pins σ H s) (u : Un (frs X.stack) ch H H' s.heap h') (hok : HOk X.prog X.w H' h') (hg : AllBare g')
   (hch : ∀ b ∈ ch, (b ∈ X.ex ∨ X.s₀.heap.objs.size ≤ b) ∧ b ≠ X.env.locals ∧ (∀ x c, X.env.cells.lookup x = some c → c ≠ b) ∧ ∀ p ∈ X.pn ++ pins, p.1 ≠ b) :
   Inv X pins σ H' { s with heap := h', gens := g', drawn := d', toks := t' } := by
 obtain ⟨m, ⟨o, es, ep, ho, r⟩, _⟩ := id I.loc
 obtain ⟨sl, hL⟩ := u.any ho I.free fun z => (hch _ z).2.1 rfl
 exact I.step (ch := ch) hch (fun b o hL hb hc e n => u.keep b o e n (fun z => (List.mem_cons.mp (I.stkSub b z)).elim hL hb) hc) (fun b o _ _ hc e n => u.any e n hc) (fun b o hc e n => u.free b o e n hc) (fun b o hc e => u.there b o e hc) u.tups u.frzs u.tbls (fun m' hm => by
   obtain ⟨o', es', ep', ho', r'⟩ := hm
   rw [ho] at ho'; cases ho'
   exact ⟨_, es', ep', hL, r'⟩) hok hg
theorem Inv.turned {t' : Nat} {it : Addr} (I : Inv X pins σ H s) (k : ∀ b o, b ≠ it → s.heap.get? b = some o → h'.get? b = some o) (hn : H it = none) (hL : it ≠ X.env.locals)
   (h1 : it ∈ X.ex ∨ X.s₀.heap.objs.size ≤ it) (h2 : ∀ x c, X.env.cells.lookup x = some c → c ≠ it) (h3 : ∀ p ∈ X.pn ++ pins, p.1 ≠ it) : Inv X pins σ H { s with heap := h', toks := t' } := by
 have nit : ∀ b u, H b = some u → b ≠ it := fun b u e z => by rw [z, hn] at e; cases e
 refine I.step (g' := s.gens) (d' := s.drawn) (ch := [it]) (fun b hb => ?_) (fun b o _ _ hc e _ => k b o (fun z => hc (by simp [z])) e) (fun b o _ _ hc e _ => ⟨o.slots, k b o (fun z => hc (by simp [z])) e⟩) (fun _ _ _ _ n => n)
   (fun b o hc e => ⟨o, k b o (fun z => hc (by simp [z])) e⟩) (fun _ _ e => e) (fun _ _ _ e => e) (fun b ps e => ⟨#[], by rw [e]; simp⟩) (fun m hm => ?_) (fun b u e => ?_) I.bare
 · have e : b = it := by simpa using hb
   subst e
   exact ⟨h1, hL, h2, h3⟩
 · obtain ⟨o, es, ep, ho, r⟩ := hm
   exact ⟨o, es, ep, k _ o (Ne.symm hL) ho, r⟩
 · refine (I.hok b u e).stay (fun c v hc q => k c v ?_ q) (fun _ q => q) fun _ _ q => q
   rcases hc with z | z
   · rw [z]; exact nit b u e
   · exact nit c _ z
theorem Inv.tok (I : Inv X pins σ H s) (t : Nat) : Inv X pins σ H { s with toks := t } := I.un (h' := s.heap) (t' := t) Un.refl I.hok
theorem Inv.kept {t' : Nat} (I : Inv X pins σ H s) (k : ∀ b u, s.heap.get? b = some u → h'.get? b = some u) : Inv X pins σ H { s with heap := h', toks := t' } := I.un (Un.kept k) (I.hok.kept k)
theorem Inv.laid {a : Addr} {o : HO} {t' : Nat} (I : Inv X pins σ H s) (k : ∀ b u, s.heap.get? b = some u → h'.get? b = some u) (hp : s.heap.objs.size ≤ a) (new : ObjOk X.prog X.w (upd H a o) h' a o) :
   Inv X pins σ (upd H a o) { s with heap := h', toks := t' } := I.un (Un.laid k hp (I.hok.fresh hp)) (I.hok.laid k hp new)
theorem Inv.write {x e : Addr} {o : HO} {t' : Nat} (I : Inv X pins σ H s) (mu : Mut (H x)) (he : e = x ∨ H e = some (.own x)) (k : ∀ b u, b ≠ e → s.heap.get? b = some u → h'.get? b = some u) (heo : ∃ u, h'.get? e = some u)
   (new : ObjOk X.prog X.w (upd H x o) h' x o) : Inv X pins σ (upd H x o) { s with heap := h', toks := t' } := I.un (Un.write mu he k heo) (I.hok.write mu he k heo new)
theorem Inv.weak {σ' : List (Option V)} (I : Inv X pins σ H s) (hl : σ'.length = σ.length) (w : ∀ (i : Nat) v, σ'[i]? = some (some v) → σ[i]? = some (some v)) : Inv X pins σ' H s :=
 ⟨I.ok, I.os, I.bare, I.base, let ⟨m, hn, hl'⟩ := I.loc; ⟨m, hn, fun i x v e1 e2 e3 => hl' i x v e1 (w i v e2) e3⟩, I.cell, I.free, I.freeC, I.pin, I.hok, hl.trans I.len⟩
theorem Inv.pins_of {pins' : List (Addr × Obj)} (I : Inv X pins σ H s) (h : ∀ p ∈ pins', s.heap.get? p.1 = some p.2 ∧ H p.1 = none ∧ p.1 ≠ X.env.locals ∧ p.1 ∉ X.fs ∧ ∀ v, p.2.data ≠ .cell v) : Inv X pins' σ H s :=
 ⟨I.ok, I.os, I.bare, I.base, I.loc, I.cell, I.free, I.freeC, fun p hp => (List.mem_append.mp hp).elim (fun z => I.pin p (List.mem_append_left _ z)) (h p), I.hok, I.len⟩
theorem nodup_ix {N : List Str} (hN : N.Nodup) {i j : Nat} {x : Str} (a : N[i]? = some x) (b : N[j]? = some x) : i = j := by
 obtain ⟨h1, e1⟩ := List.getElem?_eq_some_iff.mp a
 obtain ⟨h2, e2⟩ := List.getElem?_eq_some_iff.mp b
 exact (List.getElem_inj hN).mp (e1.trans e2.symm)
theorem store_ok2 {M : Model} {A : Around} {E : Value → Shared → Prop} {i : Nat} {x : Str} {v : V} {u : Value} {Q : Unit → Shared → Prop} (I : Inv X pins σ H s) (hN : X.N.Nodup) (hi : X.N[i]? = some x) (hx : Loc X.env.scope x) (r : RelV v u)
   (h : ∀ s', Inv X pins (σ.set i (some v)) H s' → (∃ a, Heap.SameBut a s.heap s'.heap ∧ (a = X.env.locals ∨ X.env.cells.lookup x = some a)) → Q () s') (hf : X.fn x = true ∨ X.env.scope.names.lookup x = some .local := by first | exact .inl rfl | exact .inr rfl | assumption) : wpAny M A (storeName X.env x u) Q E s := by
 obtain ⟨m, hn, hl⟩ := id I.loc
 have hcls : (X.env.scope.kind == .class || (X.env.scope.kind == .module && X.env.locals != X.env.globals)) = false := by rw [I.ok.kind]; rfl
 have hiσ : i < σ.length := by rw [I.len]; exact (List.getElem?_eq_some_iff.mp hi).1
 have cne := I.cne
 have tracked : ∀ {a : Addr} {h' : Heap}, (∃ o, s.heap.get? a = some o ∧ H a = none) → Heap.SameBut a s.heap h' → HOk X.prog X.w H h' := fun {a h'} ha hs b ob e => by
   obtain ⟨_, _, hfree⟩ := ha
   refine (I.hok b ob e).stay (fun c w' hc q => (hs.2 c ?_).trans q) (fun _ q => q) fun _ _ q => q
   rintro rfl
   rcases hc with rfl | hc
   · rw [hfree] at e; cases e
   · rw [hfree] at hc; cases hc
 rcases hx with hk | hk
 · refine wpAny_storeName_local hk hn (fun h' hn' hs => ?_) hcls
   obtain ⟨oL, _, _, hoL, _⟩ := id hn
   refine h _ ⟨I.ok, I.os, I.bare, ⟨fun b o e n hb hx => ?_, fun b o e n hb hx => ?_, I.base.free, fun b o e hx => ?_, I.base.tups, I.base.frzs, I.base.tbls⟩, ⟨_, hn', fun j y v' e1 e2 e3 => ?_⟩, fun y c e => ?_, I.free, I.freeC, fun p hp => ?_, tracked ⟨oL, hoL, I.free⟩ hs, by simpa using I.len⟩ ⟨_, hs, .inl rfl⟩
   · exact (hs.2 b (Nat.ne_of_lt (Nat.lt_of_lt_of_le (Heap.lt_size e) I.ok.above))).trans (I.base.keep b o e n hb hx)
   · obtain ⟨sl, e1⟩ := I.base.slot b o e n hb hx
     exact ⟨sl, (hs.2 b (Nat.ne_of_lt (Nat.lt_of_lt_of_le (Heap.lt_size e) I.ok.above))).trans e1⟩
   · obtain ⟨o', e1⟩ := I.base.there b o e hx
     exact ⟨o', (hs.2 b (Nat.ne_of_lt (Nat.lt_of_lt_of_le (Heap.lt_size e) I.ok.above))).trans e1⟩
   · by_cases hj : j = i
     · subst hj
       rw [hi] at e1; cases e1
       rw [List.getElem?_set_self hiσ] at e2
       cases e2
       exact ⟨u, r, .inl ⟨hk, by simp⟩⟩
     · rw [List.getElem?_set_ne (Ne.symm hj)] at e2
       obtain ⟨u', r', q⟩ := hl j y v' e1 e2 e3
       refine ⟨u', r', ?_⟩
       rcases q with ⟨k, e⟩ | ⟨k, c, e, z⟩
       · refine .inl ⟨k, ?_⟩
         have : y ≠ x := fun e => hj (nodup_ix hN e1 (e ▸ hi))
         simp [this, e]
       · exact .inr ⟨k, c, e, z.sameBut hs (cne y c e)⟩
   · obtain ⟨w', z⟩ := I.cell y c e
     exact ⟨w', z.sameBut hs (cne y c e)⟩
   · obtain ⟨e, n, ne, nf, d⟩ := I.pin p hp
     exact ⟨(hs.2 p.1 ne).trans e, n, ne, nf, d⟩
 · have hfn : X.fn x = true := by
     rcases hf with z | z
     · exact z
     · rw [z] at hk; cases hk
   obtain ⟨c, hc⟩ := I.ok.has x (.inl hk)
   obtain ⟨w', z⟩ := I.cell x c hc
   refine wpAny_storeName_cell I.ok.kind hk hc z (fun h' hc' hs => ?_)
   obtain ⟨oc, hoc, hocd⟩ := id z
   refine h { s with heap := h' } ⟨I.ok, I.os, I.bare, ⟨fun b o e n hb hx => ?_, fun b o e n hb hx => ?_, I.base.free, fun b o e hx => ?_, I.base.tups, I.base.frzs, I.base.tbls⟩, ⟨m, hn.sameBut hs (Ne.symm (cne x c hc)), fun j y v' e1 e2 e3 => ?_⟩, fun y c' e => ?_, I.free, I.freeC, fun p hp => ?_, tracked ⟨oc, hoc, I.freeC x c hc⟩ hs, by simpa using I.len⟩ ⟨c, hs, .inr hc⟩
   · exact (hs.2 b (Nat.ne_of_lt (Nat.lt_of_lt_of_le (Heap.lt_size e) (I.ok.cab x c hfn hc)))).trans (I.base.keep b o e n hb hx)
   · obtain ⟨sl, e1⟩ := I.base.slot b o e n hb hx
     exact ⟨sl, (hs.2 b (Nat.ne_of_lt (Nat.lt_of_lt_of_le (Heap.lt_size e) (I.ok.cab x c hfn hc)))).trans e1⟩
   · obtain ⟨o', e1⟩ := I.base.there b o e hx
     exact ⟨o', (hs.2 b (Nat.ne_of_lt (Nat.lt_of_lt_of_le (Heap.lt_size e) (I.ok.cab x c hfn hc)))).trans e1⟩
   · by_cases hj : j = i
     · subst hj
       rw [hi] at e1; cases e1
       rw [List.getElem?_set_self hiσ] at e2
       cases e2
       exact ⟨u, r, .inr ⟨.inl hk, c, hc, hc'⟩⟩
     · rw [List.getElem?_set_ne (Ne.symm hj)] at e2
       obtain ⟨u', r', q⟩ := hl j y v' e1 e2 e3
       refine ⟨u', r', ?_⟩
       rcases q with q | ⟨k, c', e, z'⟩
       · exact .inl q
       · refine .inr ⟨k, c', e, z'.sameBut hs ?_⟩
         rintro rfl
         exact hj (nodup_ix hN e1 (I.ok.inj _ _ _ e hc ▸ hi))
   · by_cases hcc : c' = c
     · subst hcc; exact ⟨_, hc'⟩
     · obtain ⟨w2, z2⟩ := I.cell y c' e
       exact ⟨w2, z2.sameBut hs hcc⟩
   · obtain ⟨e, n, ne, nf, d⟩ := I.pin p hp
     refine ⟨(hs.2 p.1 ?_).trans e, n, ne, nf, d⟩
     intro q
     rw [q, hoc] at e
     have q' : oc = p.2 := Option.some.inj e
     exact d w' (by rw [← q']; exact hocd)
theorem store_ok {M : Model} {A : Around} {E : Value → Shared → Prop} {i : Nat} {x : Str} {v : V} {u : Value} {Q : Unit → Shared → Prop} (I : Inv X pins σ H s) (hN : X.N.Nodup) (hi : X.N[i]? = some x) (hx : Loc X.env.scope x) (r : RelV v u)
   (h : ∀ s', Inv X pins (σ.set i (some v)) H s' → Q () s') (hf : X.fn x = true ∨ X.env.scope.names.lookup x = some .local := by first | exact .inl rfl | exact .inr rfl | assumption) : wpAny M A (storeName X.env x u) Q E s :=
 store_ok2 I hN hi hx r (fun s' I' _ => h s' I') hf
theorem Inv.call' {s' : Shared} {ch : List Addr} (I : Inv X pins σ H s) (ho : s'.os = s.os) (u : Un (frs X.stack) ch H H' s.heap s'.heap) (hok : HOk X.prog X.w H' s'.heap) (hg : AllBare s'.gens)
   (hch : ∀ b ∈ ch, (b ∈ X.ex ∨ X.s₀.heap.objs.size ≤ b) ∧ b ≠ X.env.locals ∧ (∀ x c, X.env.cells.lookup x = some c → c ≠ b) ∧ ∀ p ∈ X.pn ++ pins, p.1 ≠ b) : Inv X pins σ H' s' := by
 obtain ⟨h', g', d', t', o'⟩ := s'
 have e : o' = s.os := ho
 subst e
 exact I.call (g' := g') (t' := t') (d' := d') u hok hg hch
end
abbrev XK := Value → Option Addr → Hp → Prop
abbrev St := List (Option V)
abbrev VK := V → Hp → Prop
abbrev TE := St → Hp → VK → Prop
abbrev TT := St → Hp → (Bool → Hp → Prop) → Prop
abbrev TA := St → Hp → (List V → Hp → Prop) → Prop
structure Ends where
 nx : St → Hp → Prop
 rt : VK
 bk : St → Hp → Prop := fun _ _ => False
 ct : St → Hp → Prop := fun _ _ => False
abbrev TS := Ends → St → Hp → Prop
def EP (X : Cx) (pins : List (Addr × Obj)) (σ : St) (Q : VK) (u : Value) (s' : Shared) : Prop := ∃ v H', Inv X pins σ H' s' ∧ RelV v u ∧ Q v H'
def TP (X : Cx) (pins : List (Addr × Obj)) (σ : St) (Q : Bool → Hp → Prop) (b : Bool) (s' : Shared) : Prop := ∃ H', Inv X pins σ H' s' ∧ Q b H'
def AP (X : Cx) (pins : List (Addr × Obj)) (σ : St) (Q : List V → Hp → Prop) (us : List Value) (s' : Shared) : Prop := ∃ vs H', Inv X pins σ H' s' ∧ Vals vs us ∧ Q vs H'
def SP (X : Cx) (pins : List (Addr × Obj)) (D : Ends) (f : Flow) (s' : Shared) : Prop :=
 match f with
 | .next => ∃ σ' H', Inv X pins σ' H' s' ∧ D.nx σ' H'
 | .brk => ∃ σ' H', Inv X pins σ' H' s' ∧ D.bk σ' H'
 | .cont => ∃ σ' H', Inv X pins σ' H' s' ∧ D.ct σ' H'
 | .ret u => ∃ v σ' H', Inv X pins σ' H' s' ∧ RelV v u ∧ D.rt v H'
def PE (X : Cx) (e : Expr) (t : TE) : Prop :=
 ∀ (pins : List (Addr × Obj)) (s : Shared) (σ : St) (H : Hp) (Q : VK), Inv X pins σ H s → t σ H Q → wpAny (model X.prog X.w) X.A (eval e X.env) (EP X pins σ Q) X.xe s
def PT (X : Cx) (e : Expr) (t : TT) : Prop :=
 ∀ (pins : List (Addr × Obj)) (s : Shared) (σ : St) (H : Hp) (Q : Bool → Hp → Prop), Inv X pins σ H s → t σ H Q → wpAny (model X.prog X.w) X.A (isTrue e X.env (eval e X.env)) (TP X pins σ Q) X.xe s
def PW (X : Cx) (e : Expr) (t : TT) : Prop :=
 ∀ (whole : Sem Value) (pins : List (Addr × Obj)) (s : Shared) (σ : St) (H : Hp) (Q : Bool → Hp → Prop), Inv X pins σ H s → t σ H Q → wpAny (model X.prog X.w) X.A (isTrue e X.env whole) (TP X pins σ Q) X.xe s
theorem PW.pt {X : Cx} {e : Expr} {t : TT} (h : PW X e t) : PT X e t := h _
def PA (X : Cx) (es : List Expr) (t : TA) : Prop :=
 ∀ (pos : Pos) (pins : List (Addr × Obj)) (s : Shared) (σ : St) (H : Hp) (Q : List V → Hp → Prop), Inv X pins σ H s → t σ H Q → wpAny (model X.prog X.w) X.A (spliced (backTo pos (starEach es X.env))) (AP X pins σ Q) X.xe s
def PS (X : Cx) (st : Stmt) (t : TS) : Prop :=
 ∀ (pins : List (Addr × Obj)) (s : Shared) (σ : St) (H : Hp) (D : Ends), Inv X pins σ H s → t D σ H → wpAny (model X.prog X.w) X.A (exec st X.env) (SP X pins D) X.xe s
def PSs (X : Cx) (st : List Stmt) (t : TS) : Prop :=
 ∀ (pins : List (Addr × Obj)) (s : Shared) (σ : St) (H : Hp) (D : Ends), Inv X pins σ H s → t D σ H → wpAny (model X.prog X.w) X.A (execs st X.env) (SP X pins D) X.xe s
theorem thn {α : Type} {t : Sem α} {Q Q' : α → Shared → Prop} {M : Model} {A : Around} {E : Value → Shared → Prop} {s : Shared} (h : wpAny M A t Q E s) (hQ : ∀ a s, Q a s → Q' a s) : wpAny M A t Q' E s := wpAny_mono h hQ fun _ _ x => x
end L2
namespace L2
open PySem PySem.Spec PyProof.Rows
section
variable {X : Cx}
def tVar (i : Nat) : TE := fun σ H Q => ∃ v, σ[i]? = some (some v) ∧ Q v H
def tC (v : V) : TE := fun _ H Q => Q v H
theorem pe_var {i : Nat} {x : Str} {pos : Pos} (hN : X.N[i]? = some x) (hv : Vis X.env.scope x) (hd : (x == ("__debug__" : Str)) = false := by decide) (hcd : (x == ("__classdict__" : Str)) = false := by decide) : PE X (.Name x pos) (tVar i) := by
 intro pins s σ H Q I h
 obtain ⟨v, e, h⟩ := h
 obtain ⟨m, hn, hl⟩ := I.loc
 obtain ⟨u, r, l⟩ := hl i x v hN e hv
 have fin : EP X pins σ Q u s := ⟨v, H, I, r, h⟩
 rcases l with ⟨hk, hm⟩ | ⟨hk, c, hc, hcell⟩
 · exact wpAny_Name (wpAny_loadName_local I.ok.kind hk hn hm fin) hd
 · rcases hk with hk | hk
   · exact wpAny_Name (wpAny_loadName_cell I.ok.kind hk hc hcell fin) hd
   · exact wpAny_Name (wpAny_loadName_free I.ok.kind hk hc hcell fin hcd) hd
theorem pe_int {i j pos} : PE X (.Constant (.int i) j pos) (tC (.int i)) := fun _ _ _ H _ I h => wpAny_Constant_int ⟨.int i, H, I.tok _, ⟨_, rfl⟩, h⟩
theorem pe_bl {b j pos} : PE X (.Constant (.bool b) j pos) (tC (.bl b)) := fun _ _ _ H _ I h => Constant_bool ⟨.bl b, H, I, rfl, h⟩
theorem pe_str {x j pos} : PE X (.Constant (.str x) j pos) (tC (.str x)) := fun _ _ _ H _ I h => Calls.Constant_str ⟨.str x, H, I.tok _, ⟨_, rfl⟩, h⟩
def Gl (X : Cx) (x : Str) : Prop := X.env.kindOf x = some .globalImplicit
theorem ld_glob {E : Value → Shared → Prop} {pins : List (Addr × Obj)} {s : Shared} {σ : St} {H : Hp} {x : Str} {u : Value} {pos : Pos} {Q : Value → Shared → Prop} (I : Inv X pins σ H s) (hg : Gl X x) (hm : X.mg x = some u) (h : Q u s)
   (hd : (x == ("__debug__" : Str)) = false := by decide) : wpAny (model X.prog X.w) X.A (eval (.Name x pos) X.env) Q E s :=
 Calls.Name_function_global I.ok.kind hg (Calls.loadGlobal_global (by rw [I.ok.glob]; exact I.mod.glob.keeps I.bk) hm h) hd
theorem ld_blt {E : Value → Shared → Prop} {pins : List (Addr × Obj)} {s : Shared} {σ : St} {H : Hp} {x : Str} {u : Value} {pos : Pos} {Q : Value → Shared → Prop} (I : Inv X pins σ H s) (hg : Gl X x) (hm : X.mg x = none) (hv : bootBuiltins x = some u) (h : Q u s)
   (hn : x ≠ "__name__" := by decide) (hd : (x == ("__debug__" : Str)) = false := by decide) : wpAny (model X.prog X.w) X.A (eval (.Name x pos) X.env) Q E s := by
 obtain ⟨mb, h1, h2⟩ := I.mod.blt
 exact Calls.Name_function_global I.ok.kind hg (Calls.loadGlobal_builtin (by rw [I.ok.glob]; exact I.mod.glob.keeps I.bk) hm (by rw [I.ok.blt]; exact h1.keeps I.bk) ((h2 x hn).trans hv) h) hd
variable {a b : Expr} {ta tb : TE} {pos : Pos}
def tB (t : TE) : TT := fun σ H Q => t σ H fun x H1 => ∃ c, x = .bl c ∧ Q c H1
theorem pt_val {e : Expr} {t : TE} (h : PE X e t) (he : ∀ whole, isTrue e X.env whole = (do let v ← whole; standAt e.pos; holding [v] (truthy v)) := by intro _; rfl) : PT X e (tB t) := by
 intro pins s σ H Q I hw
 refine isTrue_plain (thn (h pins s σ H _ I hw) fun v s1 ⟨x, H1, I1, r1, q1⟩ => ?_) (he _)
 obtain ⟨d, rfl, q⟩ := q1
 cases r1
 exact wpAny_truthy_bool ⟨H1, I1, q⟩
variable {tA tB' : TT} {rest : List Expr}
def tAnd (t u : TT) : TT := fun σ H Q => t σ H fun c H1 => if c = true then u σ H1 Q else Q false H1
def tOr (t u : TT) : TT := fun σ H Q => t σ H fun c H1 => if c = true then Q true H1 else u σ H1 Q
def tNot (t : TT) : TT := fun σ H Q => t σ H fun c H1 => Q (!c) H1
theorem pw_and1 (ha : PT X a tA) : PW X (.BoolOp .And [a] pos) tA := by
 intro wh pins s σ H Q I h
 refine isTrue_and (thn (ha pins s σ H Q I h) fun c s1 e => ?_)
 cases c with
 | true => exact isTrue_and_nil e
 | false => exact e
theorem pw_or1 (ha : PT X a tA) : PW X (.BoolOp .Or [a] pos) tA := by
 intro wh pins s σ H Q I h
 refine isTrue_or (thn (ha pins s σ H Q I h) fun c s1 e => ?_)
 cases c with
 | false => exact isTrue_or_nil e
 | true => exact e
theorem pw_and (ha : PT X a tA) (hb : PW X (.BoolOp .And (b :: rest) pos) tB') : PW X (.BoolOp .And (a :: b :: rest) pos) (tAnd tA tB') := by
 intro wh pins s σ H Q I h
 refine isTrue_and (thn (ha pins s σ H _ I h) fun c s1 ⟨H1, I1, q1⟩ => ?_)
 cases c with
 | true => exact hb wh pins s1 σ H1 Q I1 q1
 | false => exact ⟨H1, I1, q1⟩
theorem pw_or (ha : PT X a tA) (hb : PW X (.BoolOp .Or (b :: rest) pos) tB') : PW X (.BoolOp .Or (a :: b :: rest) pos) (tOr tA tB') := by
 intro wh pins s σ H Q I h
 refine isTrue_or (thn (ha pins s σ H _ I h) fun c s1 ⟨H1, I1, q1⟩ => ?_)
 cases c with
 | true => exact ⟨H1, I1, q1⟩
 | false => exact hb wh pins s1 σ H1 Q I1 q1
theorem pt_not (ha : PT X a tA) : PT X (.UnaryOp .Not a pos) (tNot tA) := by
 intro pins s σ H Q I h
 exact isTrue_not (ha pins s σ H (fun c H1 => Q (!c) H1) I h)
def tAndV (ta tb : TE) : TE := fun σ H Q => ta σ H fun x H1 => ∃ c, x = .bl c ∧ if c = true then tb σ H1 Q else Q (.bl false) H1
def tNotV (ta : TE) : TE := fun σ H Q => ta σ H fun x H1 => ∃ c, x = .bl c ∧ Q (.bl (!c)) H1
theorem pe_one {op} {t : TE} (h : PE X a t) : PE X (.BoolOp op [a] pos) t := fun pins s σ H Q I hw => BoolOp_one (h pins s σ H Q I hw)
theorem pe_and (ha : PE X a ta) (hb : PE X (.BoolOp .And (b :: rest) pos) tb) : PE X (.BoolOp .And (a :: b :: rest) pos) (tAndV ta tb) := by
 intro pins s σ H Q I h
 refine BoolOp_and (thn (ha pins s σ H _ I h) fun v s1 ⟨x, H1, I1, r1, q1⟩ => ?_)
 obtain ⟨c, rfl, q1⟩ := q1
 cases r1
 refine wpAny_truthy_bool ?_
 cases c with
 | true => exact hb pins s1 σ H1 Q I1 q1
 | false => exact ⟨.bl false, H1, I1, rfl, q1⟩
theorem pe_not (ha : PE X a ta) : PE X (.UnaryOp .Not a pos) (tNotV ta) := by
 intro pins s σ H Q I h
 refine UnaryOp_ (thn (ha pins s σ H _ I h) fun v s1 ⟨x, H1, I1, r1, q1⟩ => ?_)
 obtain ⟨c, rfl, q1⟩ := q1
 cases r1
 exact not_of (wpAny_truthy_bool ⟨.bl (!c), H1, I1, rfl, q1⟩)
def tIf (t : TT) (ta tb : TE) : TE := fun σ H Q => t σ H fun c H1 => if c = true then ta σ H1 Q else tb σ H1 Q
theorem pe_ifExp {c : Expr} (hc : PT X c tA) (ha : PE X a ta) (hb : PE X b tb) : PE X (.IfExp c a b pos) (tIf tA ta tb) := by
 intro pins s σ H Q I h
 refine wpAny_IfExp (thn (hc pins s σ H _ I h) fun d s1 ⟨H1, I1, q1⟩ => ?_)
 cases d with
 | true => exact ha pins s1 σ H1 Q I1 q1
 | false => exact hb pins s1 σ H1 Q I1 q1
end
end L2
namespace L2
open PySem PySem.Spec PyProof.Rows
def SqL (K : PySem.W.Frag) (H : Hp) (a : Addr) (xs : List V) : Prop :=
 Rd H a (.lst xs) ∨
   ∃ (o : Obj) (its : Array Value) (n : Nat), K.lookup a = some o ∧ o.cls = .type "list" ∧ o.dict = none ∧ o.data = .seq its n ∧ its.size ≤ sizeLine ∧ Vals xs its.toList
def SqT (K : PySem.W.Frag) (H : Hp) (a : Addr) (xs : List V) : Prop :=
 Rd H a (.tup xs) ∨
   ∃ (o : Obj) (its : Array Value) (n : Nat), K.lookup a = some o ∧ o.cls = .type "tuple" ∧ o.data = .seq its n ∧ its.size ≤ sizeLine ∧ Vals xs its.toList
def absV : Value → Option V
 | .none => some .non
 | .bool b => some (.bl b)
 | .int i _ => some (.int i)
 | .str x _ => some (.str x)
 | .bytes b _ => some (.byt b)
 | .float b _ => some (.flt b)
 | .ref a => some (.ref a)
 | .type n => some (.ty n)
 | _ => none
theorem RelV.abs {x : V} {u : Value} (r : RelV x u) : absV u = some x := by
 cases x with
 | non => cases r; rfl
 | bl _ => cases r; rfl
 | int _ => obtain ⟨t, rfl⟩ := r; rfl
 | str _ => obtain ⟨t, rfl⟩ := r; rfl
 | byt _ => obtain ⟨t, rfl⟩ := r; rfl
 | flt _ => obtain ⟨t, rfl⟩ := r; rfl
 | ref _ => cases r; rfl
 | ty _ => cases r; rfl
theorem RelV.inj {x y : V} {u : Value} (r : RelV x u) (q : RelV y u) : x = y := Option.some.inj (r.abs.symm.trans q.abs)
theorem Vals.inj : ∀ {xs ys : List V} {us : List Value}, Vals xs us → Vals ys us → xs = ys
 | _, _, _, .nil, .nil => rfl
 | _, _, _, .cons r t, .cons r' t' => by rw [r.inj r', Vals.inj t t']
section
variable {X : Cx} {pins : List (Addr × Obj)} {σ : St} {H : Hp} {s : Shared} {a : Addr} {xs ys : List V}
theorem SqL.of {K : PySem.W.Frag} (h : H a = some (.lst xs)) : SqL K H a xs := .inl (.inl h)
theorem SqT.of {K : PySem.W.Frag} (h : H a = some (.tup xs)) : SqT K H a xs := .inl (.inl h)
theorem Inv.list (I : Inv X pins σ H s) (h : SqL X.K H a xs) : ∃ its : List Value, Vals xs its ∧ PlainL s.heap a its.toArray ∧ xs.length ≤ sizeLine := by
 rcases h with h | ⟨o, its, n, hk, hc, hd, hs, hz, r⟩
 · obtain ⟨z, its, n, r, e⟩ := h.ok I.hok
   exact ⟨its, r, ⟨_, n, e, rfl, rfl, rfl⟩, z⟩
 · refine ⟨its.toList, r, ⟨o, n, I.kIn a o hk, hc, hd, by simpa using hs⟩, ?_⟩
   have e := r.length
   simp only [Array.length_toList] at e
   omega
theorem Inv.tuple (I : Inv X pins σ H s) (h : SqT X.K H a xs) : ∃ its : List Value, Vals xs its ∧ IsTup s.heap a its.toArray ∧ xs.length ≤ sizeLine := by
 rcases h with h | ⟨o, its, n, hk, hc, hs, hz, r⟩
 · obtain ⟨z, its, r, p⟩ := h.ok I.hok
   exact ⟨its, r, p, z⟩
 · refine ⟨its.toList, r, ⟨o, I.kIn a o hk, hc, n, by simpa using hs⟩, ?_⟩
   have e := r.length
   simp only [Array.length_toList] at e
   omega
theorem Inv.list_inj (I : Inv X pins σ H s) (h : SqL X.K H a xs) (h' : SqL X.K H a ys) : xs = ys := by
 obtain ⟨its, r, ⟨o, n, e, _, _, d⟩, _⟩ := I.list h
 obtain ⟨its', r', ⟨o', n', e', _, _, d'⟩, _⟩ := I.list h'
 rw [e] at e'; cases e'
 rw [d] at d'
 injection d' with d1 _
 have : its = its' := by simpa using congrArg Array.toList d1
 subst this
 exact r.inj r'
theorem Inv.tuple_inj (I : Inv X pins σ H s) (h : SqT X.K H a xs) (h' : SqT X.K H a ys) : xs = ys := by
 obtain ⟨its, r, ⟨o, e, _, n, d⟩, _⟩ := I.tuple h
 obtain ⟨its', r', ⟨o', e', _, n', d'⟩, _⟩ := I.tuple h'
 rw [e] at e'; cases e'
 rw [d] at d'
 injection d' with d1 _
 have : its = its' := by simpa using congrArg Array.toList d1
 subst this
 exact r.inj r'
end
abbrev Cx.wish (X : Cx) (E : Value → Shared → Prop) : Cx := { X with xe := E }
abbrev Cx.nox (X : Cx) : Cx := X.wish fun _ _ => False
theorem Cx.Ok.wish {X : Cx} (ok : X.Ok) (E : Value → Shared → Prop) : (X.wish E).Ok :=
 ⟨ok.mod, ok.kind, ok.glob, ok.blt, ok.above, ok.inj, ok.has, ok.cab, ok.hd, ok.frames, ok.stk, ok.exf, ok.bs, ok.bsz, ok.noex, ok.exfs, ok.funs, ok.frf⟩
theorem Cx.Ok.unwish {X : Cx} {E : Value → Shared → Prop} (ok : (X.wish E).Ok) : X.Ok :=
 ⟨ok.mod, ok.kind, ok.glob, ok.blt, ok.above, ok.inj, ok.has, ok.cab, ok.hd, ok.frames, ok.stk, ok.exf, ok.bs, ok.bsz, ok.noex, ok.exfs, ok.funs, ok.frf⟩
section
variable {X : Cx} {pins : List (Addr × Obj)} {σ : St} {H : Hp} {s : Shared} {E : Value → Shared → Prop}
theorem Inv.wish (I : Inv X pins σ H s) (E : Value → Shared → Prop) : Inv (X.wish E) pins σ H s := ⟨I.ok.wish E, I.os, I.bare, I.base, I.loc, I.cell, I.free, I.freeC, I.pin, I.hok, I.len⟩
theorem Inv.unwish (I : Inv (X.wish E) pins σ H s) : Inv X pins σ H s := ⟨I.ok.unwish, I.os, I.bare, I.base, I.loc, I.cell, I.free, I.freeC, I.pin, I.hok, I.len⟩
theorem SP.unwish {D : Ends} {f : Flow} {s' : Shared} (h : SP (X.wish E) pins D f s') : SP X pins D f s' := by
 cases f with
 | next => obtain ⟨σ', H', I, q⟩ := h; exact ⟨σ', H', I.unwish, q⟩
 | brk => obtain ⟨σ', H', I, q⟩ := h; exact ⟨σ', H', I.unwish, q⟩
 | cont => obtain ⟨σ', H', I, q⟩ := h; exact ⟨σ', H', I.unwish, q⟩
 | ret u => obtain ⟨v, σ', H', I, r, q⟩ := h; exact ⟨v, σ', H', I.unwish, r, q⟩
theorem PSs.nox {st : List Stmt} {t : TS} (h : PSs X.nox st t) : PSs X st t := fun pins s σ H D I hw =>
 wpAny_mono (h pins s σ H D (I.wish _) hw) (fun _ _ q => q.unwish) fun _ _ z => False.elim z
end
section
variable {X : Cx} {st : Stmt} {rest : List Stmt} {t u : TS} {e : Expr} {te : TE} {pos : Pos}
def tNext : TS := fun D σ H => D.nx σ H
def tSeq (t u : TS) : TS := fun D σ H => t { D with nx := u D } σ H
theorem pss_nil : PSs X [] tNext := fun _ _ σ H _ I h => wpAny_execs_nil ⟨σ, H, I, h⟩
theorem pss_cons (h1 : PS X st t) (h2 : PSs X rest u) : PSs X (st :: rest) (tSeq t u) := by
 intro pins s σ H D I h
 refine wpAny_execs_cons (thn (h1 pins s σ H { D with nx := u D } I h) fun f s1 q => ?_)
 cases f with
 | next =>
   obtain ⟨σ', H', I', q⟩ := q
   exact h2 pins s1 σ' H' D I' q
 | ret v => exact q
 | brk => exact q
 | cont => exact q
theorem pss_one (h1 : PS X st t) : PSs X [st] t := by
 intro pins s σ H D I h
 refine wpAny_execs_cons (thn (h1 pins s σ H D I h) fun f s1 q => ?_)
 cases f with
 | next => exact wpAny_execs_nil q
 | ret v => exact q
 | brk => exact q
 | cont => exact q
theorem Inv.quiet {pins : List (Addr × Obj)} {σ : St} {H : Hp} {s : Shared} (I : Inv X pins σ H s) : interactive X.env = false := by simp [interactive, I.ok.kind]
def tDrop (te : TE) : TS := fun D σ H => te σ H fun _ H1 => D.nx σ H1
theorem ps_expr (he : PE X e te) (hs : swapsWith e none pos.line X.env = pure false := by rfl) : PS X (.Expr e pos) (tDrop te) := by
 intro pins s σ H D I h
 exact wpAny_Expr_any (thn (he pins s σ H _ I h) fun v s1 ⟨x, H1, I1, r1, q1⟩ => ⟨σ, H1, I1, q1⟩) I.quiet hs
def tRet (te : TE) : TS := fun D σ H => te σ H D.rt
theorem ps_ret (he : PE X e te) : PS X (.Return (some e) pos) (tRet te) := by
 intro pins s σ H D I h
 exact wpAny_Return_some (thn (he pins s σ H _ I h) fun v s1 ⟨x, H1, I1, r1, q1⟩ => ⟨x, σ, H1, I1, r1, q1⟩)
def tIfS (c : TT) (t u : TS) : TS := fun D σ H => c σ H fun b H1 => if b = true then t D σ H1 else u D σ H1
theorem ps_if {c : Expr} {a b : List Stmt} {tc : TT} (hc : PT X c tc) (ha : PSs X a t) (hb : PSs X b u) : PS X (.If c a b pos) (tIfS tc t u) := by
 intro pins s σ H D I h
 refine wpAny_If (thn (hc pins s σ H _ I h) fun d s1 ⟨H1, I1, q1⟩ => ?_)
 cases d with
 | true => exact ha pins s1 σ H1 D I1 q1
 | false => exact hb pins s1 σ H1 D I1 q1
end
abbrev TG := V → St → Hp → (St → Hp → Prop) → Prop
abbrev TGs := List V → St → Hp → (St → Hp → Prop) → Prop
def PG (X : Cx) (target : Expr) (t : TG) : Prop :=
 ∀ (pins : List (Addr × Obj)) (s : Shared) (σ : St) (H : Hp) (v : V) (u : Value) (Q : St → Hp → Prop), Inv X pins σ H s → RelV v u → t v σ H Q →
   wpAny (model X.prog X.w) X.A (assign target X.env u) (fun _ s' => ∃ σ' H', Inv X pins σ' H' s' ∧ Q σ' H') X.xe s
def PGs (X : Cx) (ts : List Expr) (t : TGs) : Prop :=
 ∀ (pins : List (Addr × Obj)) (s : Shared) (σ : St) (H : Hp) (vs : List V) (us : List Value) (Q : St → Hp → Prop), Inv X pins σ H s → Vals vs us → t vs σ H Q →
   wpAny (model X.prog X.w) X.A (assignInOrder ((assignEach ts X.env).map (·.2)) us) (fun _ s' => ∃ σ' H', Inv X pins σ' H' s' ∧ Q σ' H') X.xe s
section
variable {X : Cx} {pos : Pos}
def gName (i : Nat) : TG := fun v σ H Q => Q (σ.set i (some v)) H
theorem pg_name {i : Nat} {x : Str} (hN : X.N.Nodup) (hi : X.N[i]? = some x) (hx : Loc X.env.scope x) (hf : X.fn x = true ∨ X.env.scope.names.lookup x = some .local := by first | exact .inl rfl | exact .inr rfl | assumption) : PG X (.Name x pos) (gName i) := by
 intro pins s σ H v u Q I r h
 exact wpAny_assign_Name (store_ok I hN hi hx r (fun s' I' => ⟨_, H, I', h⟩) hf)
def gNil : TGs := fun vs σ H Q => vs = [] ∧ Q σ H
def gCons (t : TG) (u : TGs) : TGs := fun vs σ H Q => ∃ v r, vs = v :: r ∧ t v σ H fun σ' H' => u r σ' H' Q
theorem pgs_nil : PGs X [] gNil := by
 intro pins s σ H vs us Q I r h
 obtain ⟨e, h⟩ := h
 subst e
 cases r
 exact assignInOrder_nil ⟨σ, H, I, h⟩
theorem pgs_cons {e : Expr} {es : List Expr} {t : TG} {u : TGs} (h1 : PG X e t) (h2 : PGs X es u)
   (hs : (assignEach (e :: es) X.env).map (·.2) = assign e X.env :: (assignEach es X.env).map (·.2) := by rfl) : PGs X (e :: es) (gCons t u) := by
 intro pins s σ H vs us Q I r h
 obtain ⟨v, vr, e1, h⟩ := h
 subst e1
 cases r with
 | cons r rr =>
   rw [hs]
   refine assignInOrder_cons (thn (h1 pins s σ H _ _ _ I r h) fun _ s1 ⟨σ1, H1, I1, q1⟩ => ?_)
   exact h2 pins s1 σ1 H1 _ _ Q I1 rr q1
def gTup (K : PySem.W.Frag) (n : Nat) (t : TGs) : TG := fun v σ H Q => ∃ a xs, v = .ref a ∧ SqT K H a xs ∧ xs.length = n ∧ t xs σ H Q
theorem pg_tup {es : List Expr} {k : Nat} {t : TGs} {n : Nat} (hc : X.calm = true) (h : PGs X es t)
   (hn : (assignEach es X.env).length = n := by rfl) (hst : (assignEach es X.env).findIdx? (·.1) = none := by rfl) : PG X (.Tuple es k pos) (gTup X.K n t) := by
 intro pins s σ H v u Q I r hw
 obtain ⟨a, xs, e1, hq, hl, hw⟩ := hw
 subst e1
 cases r
 obtain ⟨its, rv, ht, hz⟩ := I.tuple hq
 refine assign_Tuple_tuple (I.ok.hd hc) ht (by simp [hn, ← hl, rv.length]) hst fun h' hx => ?_
 have I1 : Inv X pins σ H { s with heap := h' } := I.kept (t' := s.toks) fun b o e => hx b o (Nat.ne_of_lt (Heap.lt_size e)) e
 exact h pins _ σ H xs _ Q I1 (by simpa using rv) hw
def tAsg (te : TE) (g : TG) : TS := fun D σ H => te σ H fun x H1 => g x σ H1 D.nx
theorem ps_asg {tg e : Expr} {te : TE} {g : TG} (he : PE X e te) (hg : PG X tg g) (hs : swapsWithSole [tg] e pos.line X.env = pure false := by rfl) (hw : swappedStores [tg] e X.env = pure none := by rfl)
   (h1 : (assignEach [tg] X.env).map (·.2) = [assign tg X.env] := by rfl) : PS X (.Assign [tg] e pos) (tAsg te g) := by
 intro pins s σ H D I h
 refine wpAny_Assign_stores (thn (he pins s σ H _ I h) fun v s1 ⟨x, H1, I1, r1, q1⟩ => ?_) hs hw
 rw [h1]
 exact thn (hg pins s1 σ H1 x v _ I1 r1 q1) fun _ s2 q => q
theorem ps_set {i : Nat} {x : Str} {e : Expr} {te : TE} {pos' : Pos} (hN : X.N.Nodup) (hi : X.N[i]? = some x) (hx : Loc X.env.scope x) (he : PE X e te) (hs : swapsWith e (some (.Name x pos')) pos.line X.env = pure false := by rfl) (hf : X.fn x = true ∨ X.env.scope.names.lookup x = some .local := by first | exact .inl rfl | exact .inr rfl | assumption) :
   PS X (.Assign [.Name x pos'] e pos) (tAsg te (gName i)) := by
 intro pins s σ H D I h
 refine wpAny_Assign_Name (thn (he pins s σ H _ I h) fun v s1 ⟨y, H1, I1, r1, q1⟩ => ?_) hs
 exact store_ok I1 hN hi hx r1 (fun s2 I2 => ⟨_, H1, I2, q1⟩) hf
end
section
variable {X : Cx} {pos : Pos}
def tWhile (c : TT) (tb : TS) : TS := fun D σ H => ∃ W : Nat → St → Hp → Prop, (∃ m, W m σ H) ∧ ∀ m σ H, W m σ H →
 c σ H fun b H1 => if b = true then ∃ N : St → Hp → Prop, (∀ σ' H', N σ' H' → ∃ m', m' < m ∧ W m' σ' H') ∧ tb { D with nx := N, ct := N, bk := D.nx } σ H1 else D.nx σ H1
theorem ps_while {c : Expr} {body : List Stmt} {tc : TT} {tb : TS} (hp : PassesOwn (model X.prog X.w) X.A X.env X.xe) (hc : PT X c tc) (hb : PSs X body tb) : PS X (.While c body [] pos) (tWhile tc tb) := by
 intro pins s σ H D I h
 obtain ⟨W, ⟨m0, w0⟩, turn⟩ := h
 refine wpAny_While (codeAny_whileLoop (fun n s' => ∃ σ' H', Inv X pins σ' H' s' ∧ W n σ' H') ?_ m0 ⟨σ, H, I, w0⟩)
 rintro n s1 ⟨σ1, H1, I1, w1⟩
 refine wpAny_passesOwn hp (thn (hc pins s1 σ1 H1 _ I1 (turn n σ1 H1 w1)) fun b s2 ⟨H2, I2, q2⟩ => ?_)
 cases b with
 | true =>
   obtain ⟨N, hN, q2⟩ := q2
   rw [if_pos rfl]
   refine wpAny_passesOwn hp (thn (hb pins s2 σ1 H2 _ I2 q2) fun f s3 q3 => ?_)
   cases f with
   | next =>
     obtain ⟨σ3, H3, I3, n3⟩ := q3
     obtain ⟨m', hm, w3⟩ := hN σ3 H3 n3
     exact ⟨m', hm, σ3, H3, I3, w3⟩
   | cont =>
     obtain ⟨σ3, H3, I3, n3⟩ := q3
     obtain ⟨m', hm, w3⟩ := hN σ3 H3 n3
     exact ⟨m', hm, σ3, H3, I3, w3⟩
   | brk => exact q3
   | ret v => exact q3
 | false =>
   rw [if_neg Bool.false_ne_true]
   exact wpAny_execs_nil ⟨σ1, H2, I2, q2⟩
end
structure It where
 go : Nat → Hp → Prop
 yld : Nat → Hp → V → Hp → Prop
 stop : Nat → Hp → Prop
def FpOk (X : Cx) (pins : List (Addr × Obj)) (H : Hp) (b : Addr) : Prop :=
 H b = none ∧ b ≠ X.env.locals ∧ b ∉ X.fs ∧ (b ∈ X.ex ∨ X.s₀.heap.objs.size ≤ b) ∧ (∀ x c, X.env.cells.lookup x = some c → c ≠ b) ∧ ∀ p ∈ X.pn ++ pins, p.1 ≠ b
theorem Inv.fpOk {X : Cx} {pins : List (Addr × Obj)} {σ : St} {H H' : Hp} {s : Shared} {b : Addr} (I : Inv X pins σ H s) (hb : s.heap.objs.size ≤ b) (hn : H' b = none) : FpOk X pins H' b := by
 refine ⟨hn, Nat.ne_of_gt (Nat.lt_of_lt_of_le I.lt hb), I.nofs hb, .inr (Nat.le_trans I.sz hb), fun x c e z => ?_, fun p hp z => ?_⟩
 · obtain ⟨v, q⟩ := I.cell x c e
   exact absurd (Nat.lt_of_lt_of_le q.lt (by rw [z]; exact hb)) (Nat.lt_irrefl _)
 · exact absurd (Nat.lt_of_lt_of_le (Heap.lt_size (I.pin p hp).1) (by rw [z]; exact hb)) (Nat.lt_irrefl _)
structure Turn (P : Program) (w : World) (K : PySem.W.Frag) (tg : Expr) (J : It) (fp : List Addr) (it : Addr) (tn : Nat → Heap → Prop) : Prop where
 mem : it ∈ fp
 obj : ∀ i h, tn i h → ∀ b ∈ fp, ∃ o, h.get? b = some o ∧ ∀ v, o.data ≠ .cell v
 keep : ∀ i h h', tn i h → (∀ b ∈ fp, ∀ o, h.get? b = some o → h'.get? b = some o) → tn i h'
 item : ∀ (X : Cx), X.prog = P → X.w = w → X.K = K → X.calm = true → ∀ (i : Nat) (pins : List (Addr × Obj)) (s : Shared) (σ : St) (H : Hp) (E : Value → Shared → Prop), Inv X pins σ H s → (∀ b ∈ fp, FpOk X pins H b) → tn i s.heap → J.go i H →
   wpAny (model P w) X.A (pyNext (.ref it)) (fun r s1 => ∃ u, r = some u ∧
     wpAny (model P w) X.A (letOwnedTupleGo tg (.ref it) u) (fun _ s2 => ∃ x H', Inv X pins σ H' s2 ∧ RelV x u ∧ J.yld i H x H' ∧ tn (i + 1) s2.heap ∧ ∀ b ∈ fp, H' b = none) E s1) E s
 done : ∀ (X : Cx), X.prog = P → X.w = w → X.K = K → X.calm = true → ∀ (i : Nat) (pins : List (Addr × Obj)) (s : Shared) (σ : St) (H : Hp) (E : Value → Shared → Prop), Inv X pins σ H s → (∀ b ∈ fp, FpOk X pins H b) → tn i s.heap → J.stop i H →
   wpAny (model P w) X.A (pyNext (.ref it)) (fun r s1 => r = none ∧ Inv X pins σ H s1) E s
 self : ∀ (A : Around) (i : Nat) (s : Shared) (Q : Value → Shared → Prop) (E : Value → Shared → Prop), tn i s.heap → Q (.ref it) s → wpAny (model P w) A (pyIter (.ref it)) Q E s
abbrev TI := St → Hp → (It → Hp → Prop) → Prop
def PIE (X : Cx) (pins : List (Addr × Obj)) (σ : St) (tg : Expr) (R : It → Hp → Prop) (itv : Value) (s2 : Shared) : Prop :=
 ∃ (it : Addr) (fp : List Addr) (tn : Nat → Heap → Prop) (J : It) (H' : Hp), itv = .ref it ∧ Inv X pins σ H' s2 ∧ Turn X.prog X.w X.K tg J fp it tn ∧ tn 0 s2.heap ∧ (∀ b ∈ fp, FpOk X pins H' b) ∧ R J H'
def PI (X : Cx) (tg iter : Expr) (wi : TI) : Prop :=
 ∀ (pins : List (Addr × Obj)) (s : Shared) (σ : St) (H : Hp) (R : It → Hp → Prop), Inv X pins σ H s → wi σ H R →
   wpAny (model X.prog X.w) X.A (eval iter X.env) (fun v s1 => wpAny (model X.prog X.w) X.A (pyIter v) (PIE X pins σ tg R) X.xe s1) X.xe s
theorem go_of {M : Model} {A : Around} {E : Value → Shared → Prop} {s : Shared} {tg : Expr} {it : Addr} {u : Value} {o : Obj} {n : String} {vs : Array Value} {Q : Unit → Shared → Prop} (ho : s.heap.get? it = some o) (hc : o.cls = .type n) (hd : o.data = .fields vs)
   (hn : ["enumerate", "zip", "dict_itemiterator", "dict_reverseitemiterator", "odict_iterator", "itertools.zip_longest", "itertools.pairwise"].contains n = false) (hQ : Q () s) : wpAny M A (letOwnedTupleGo tg (.ref it) u) Q E s := by
 unfold letOwnedTupleGo
 cases tg <;> first
   | exact wpAny_pure hQ
   | (cases u <;> first
       | exact wpAny_pure hQ
       | (refine wpAny_bind (wpAny_load ho ?_)
          rw [hc, hd]
          show wpAny M A (if (["enumerate", "zip", "dict_itemiterator", "dict_reverseitemiterator", "odict_iterator", "itertools.zip_longest", "itertools.pairwise"].contains n && vs[0]? == some (rawInt _)) = true then _ else _) Q E s
          rw [if_neg (by intro h; rw [hn, Bool.false_and] at h; cases h)]
          exact wpAny_pure hQ))
def Itl (K : PySem.W.Frag) (a : Addr) : It :=
 ⟨fun i H => ∃ xs x, SqL K H a xs ∧ xs[i]? = some x, fun i H x H' => H' = H ∧ ∀ xs, SqL K H a xs → xs[i]? = some x, fun i H => ∃ xs, SqL K H a xs ∧ xs.length ≤ i⟩
def Itt (K : PySem.W.Frag) (a : Addr) : It :=
 ⟨fun i H => ∃ xs x, SqT K H a xs ∧ xs[i]? = some x, fun i H x H' => H' = H ∧ ∀ xs, SqT K H a xs → xs[i]? = some x, fun i H => ∃ xs, SqT K H a xs ∧ xs.length ≤ i⟩
def Itr (lo : Int) (n : Nat) : It := ⟨fun i _ => i < n, fun i H x H' => H' = H ∧ x = .int (lo + i), fun i _ => n ≤ i⟩
theorem turn_list {P : Program} {w : World} {K : PySem.W.Frag} {tg : Expr} (a it : Addr) : Turn P w K tg (Itl K a) [it] it (fun i h => h.IsListIter it a i) where
 mem := by simp
 obj := fun i h st b hb => by
   have e : b = it := by simpa using hb
   subst e
   obtain ⟨o, e, c, d⟩ := st
   exact ⟨o, e, fun v z => by rw [d] at z; cases z⟩
 keep := fun i h h' st k => st.at fun o e => k it (by simp) o e
 item := by
   intro X hP hw hK hc i pins s σ H E I hf st hg
   subst hP hw hK
   obtain ⟨xs, x, hq, hx⟩ := hg
   obtain ⟨its, rv, p, hz⟩ := I.list hq
   obtain ⟨u, hu, ru⟩ := rv.get hx
   obtain ⟨f0, f1, f2, f3, f4, f5⟩ := hf it (by simp)
   refine wpAny_pyNext_list_item st p.isList (x := u) (by simpa using hu) fun h' st' sb => ?_
   have I1 : Inv X pins σ H { s with heap := h' } := I.turned (t' := s.toks) (fun b o hb e => (sb.2 b hb).trans e) f0 f1 f3 f4 f5
   obtain ⟨o, e, c, d⟩ := id st'
   exact ⟨u, rfl, go_of (s := { s with heap := h' }) e c d (by decide) ⟨x, H, I1, ru, ⟨rfl, fun ys hy => by rw [I.list_inj hy hq]; exact hx⟩, st', fun b hb => (hf b hb).1⟩⟩
 done := by
   intro X hP hw hK hc i pins s σ H E I hf st hg
   subst hP hw hK
   obtain ⟨xs, hq, hx⟩ := hg
   obtain ⟨its, rv, p, hz⟩ := I.list hq
   obtain ⟨f0, f1, f2, f3, f4, f5⟩ := hf it (by simp)
   have hl := rv.length
   exact wpAny_pyNext_list_end (I.ok.hd hc) st p.isList (by simp; omega) fun h' eb => ⟨rfl, I.turned (t' := s.toks) (fun b o hb e => eb b o hb e) f0 f1 f3 f4 f5⟩
 self := fun _ _ _ _ _ st h => wpAny_pyIter_listiter st h
theorem turn_tuple {P : Program} {w : World} {K : PySem.W.Frag} {tg : Expr} (a it : Addr) : Turn P w K tg (Itt K a) [it] it (fun i h => h.IsTupleIter it a i) where
 mem := by simp
 obj := fun i h st b hb => by
   have e : b = it := by simpa using hb
   subst e
   obtain ⟨o, e, c, d⟩ := st
   exact ⟨o, e, fun v z => by rw [d] at z; cases z⟩
 keep := fun i h h' st k => st.at fun o e => k it (by simp) o e
 item := by
   intro X hP hw hK hc i pins s σ H E I hf st hg
   subst hP hw hK
   obtain ⟨xs, x, hq, hx⟩ := hg
   obtain ⟨its, rv, p, hz⟩ := I.tuple hq
   obtain ⟨u, hu, ru⟩ := rv.get hx
   obtain ⟨f0, f1, f2, f3, f4, f5⟩ := hf it (by simp)
   refine wpAny_pyNext_tuple_item st (show s.heap.IsTuple a its.toArray from p) (x := u) (by simpa using hu) fun h' st' sb => ?_
   have I1 : Inv X pins σ H { s with heap := h' } := I.turned (t' := s.toks) (fun b o hb e => (sb.2 b hb).trans e) f0 f1 f3 f4 f5
   obtain ⟨o, e, c, d⟩ := id st'
   exact ⟨u, rfl, go_of (s := { s with heap := h' }) e c d (by decide) ⟨x, H, I1, ru, ⟨rfl, fun ys hy => by rw [I.tuple_inj hy hq]; exact hx⟩, st', fun b hb => (hf b hb).1⟩⟩
 done := by
   intro X hP hw hK hc i pins s σ H E I hf st hg
   subst hP hw hK
   obtain ⟨xs, hq, hx⟩ := hg
   obtain ⟨its, rv, p, hz⟩ := I.tuple hq
   obtain ⟨f0, f1, f2, f3, f4, f5⟩ := hf it (by simp)
   have hl := rv.length
   exact wpAny_pyNext_tuple_end (I.ok.hd hc) st (show s.heap.IsTuple a its.toArray from p) (by simp; omega) fun h' eb => ⟨rfl, I.turned (t' := s.toks) (fun b o hb e => eb b o hb e) f0 f1 f3 f4 f5⟩
 self := fun _ _ _ _ _ st h => wpAny_pyIter_tupleiter st h
theorem turn_range {P : Program} {w : World} {K : PySem.W.Frag} {tg : Expr} (it : Addr) (lo : Int) (n : Nat) : Turn P w K tg (Itr lo n) [it] it (fun i h => IsRangeIter h it (lo + (i : Nat) * 1) ((n : Int) - (i : Nat)) 1) where
 mem := by simp
 obj := fun i h st b hb => by
   have e : b = it := by simpa using hb
   subst e
   exact ⟨_, st, fun v z => by
     have z' : Data.fields _ = Data.cell v := z
     cases z'⟩
 keep := fun i h h' st k => k it (by simp) _ st
 item := by
   intro X hP hw hK hc i pins s σ H E I hf st hg
   subst hP hw hK
   obtain ⟨f0, f1, f2, f3, f4, f5⟩ := hf it (by simp)
   have W := Walks.range (prog := X.prog) (w := X.w) (I.ok.hd hc) it lo 1 n
   refine W.item i s _ _ hg st fun v h' tk hv st' kk => ?_
   obtain ⟨t, rfl⟩ := hv
   have I1 : Inv X pins σ H { s with heap := h', toks := tk } := I.turned (fun b o hb e => kk b o (by simpa using hb) e) f0 f1 f3 f4 f5
   refine ⟨_, rfl, go_of (s := { s with heap := h', toks := tk }) (n := "range_iterator") st' rfl rfl (by decide) ⟨.int (lo + i), H, I1, ⟨t, ?_⟩, ⟨rfl, rfl⟩, st', fun b hb => (hf b hb).1⟩⟩
   rw [Int.mul_one]
 done := by
   intro X hP hw hK hc i pins s σ H E I hf st hg
   subst hP hw hK
   obtain ⟨f0, f1, f2, f3, f4, f5⟩ := hf it (by simp)
   exact wpAny_pyNext_range_end (I.ok.hd hc) st (by have : n ≤ i := hg; omega) fun h' eb => ⟨rfl, I.turned (t' := s.toks) (fun b o hb e => eb b o hb e) f0 f1 f3 f4 f5⟩
 self := fun _ _ _ _ _ st h => wpAny_pyIter_rangeiter st h
end L2
namespace L2
open PySem PySem.Spec PyProof.Rows
section
variable {X : Cx} {tg : Expr}
def iList (K : PySem.W.Frag) (tl : TE) : TI := fun σ H R => tl σ H fun x H1 => ∃ a, x = .ref a ∧ (∃ xs, SqL K H1 a xs) ∧ R (Itl K a) H1
def iTup (K : PySem.W.Frag) (tl : TE) : TI := fun σ H R => tl σ H fun x H1 => ∃ a, x = .ref a ∧ (∃ xs, SqT K H1 a xs) ∧ R (Itt K a) H1
theorem pi_list {l : Expr} {tl : TE} (hl : PE X l tl) : PI X tg l (iList X.K tl) := by
 intro pins s σ H R I h
 refine thn (hl pins s σ H _ I h) fun v s1 ⟨x, H1, I1, r1, q1⟩ => ?_
 obtain ⟨a, e, ⟨xs, hq⟩, q⟩ := q1
 subst e
 cases r1
 obtain ⟨its, rv, p, hz⟩ := I1.list hq
 refine wpAny_pyIter_list p.isList ?_
 refine ⟨s1.heap.objs.size, [s1.heap.objs.size], _, _, H1, rfl, I1.kept (t' := s1.toks) fun b o e => Heap.get?_push_of_some _ e, turn_list a _, ⟨_, Heap.get?_push_size _ rfl, rfl, rfl⟩, fun b hb => ?_, q⟩
 have e : b = s1.heap.objs.size := by simpa using hb
 subst e
 exact I1.fpOk (Nat.le_refl _) (I1.hok.fresh (Nat.le_refl _))
theorem pi_tup {l : Expr} {tl : TE} (hl : PE X l tl) : PI X tg l (iTup X.K tl) := by
 intro pins s σ H R I h
 refine thn (hl pins s σ H _ I h) fun v s1 ⟨x, H1, I1, r1, q1⟩ => ?_
 obtain ⟨a, e, ⟨xs, hq⟩, q⟩ := q1
 subst e
 cases r1
 obtain ⟨its, rv, p, hz⟩ := I1.tuple hq
 refine wpAny_pyIter_tuple (show s1.heap.IsTuple a its.toArray from p) ?_
 refine ⟨s1.heap.objs.size, [s1.heap.objs.size], _, _, H1, rfl, I1.kept (t' := s1.toks) fun b o e => Heap.get?_push_of_some _ e, turn_tuple a _, ⟨_, Heap.get?_push_size _ rfl, rfl, rfl⟩, fun b hb => ?_, q⟩
 have e : b = s1.heap.objs.size := by simpa using hb
 subst e
 exact I1.fpOk (Nat.le_refl _) (I1.hok.fresh (Nat.le_refl _))
theorem range_it {pins : List (Addr × Obj)} {σ : St} {H : Hp} {s : Shared} {R : It → Hp → Prop} {E : Value → Shared → Prop} {lo hi : Int} {t u v : Tok} {tk : Nat} (I : Inv X pins σ H s) (h1 : -(2 ^ 62) ≤ lo) (h2 : lo < 2 ^ 62) (h3 : -(2 ^ 62) ≤ hi) (h4 : hi < 2 ^ 62)
   (q : R (Itr lo (hi - lo).toNat) H) : wpAny (model X.prog X.w) X.A (pyIter (.ref s.heap.objs.size)) (PIE X pins σ tg R) E { s with heap := s.heap.push { cls := .type "range", data := .fields #[.int lo t, .int hi u, .int 1 v] }, toks := tk } := by
 refine wpAny_pyIter_range (IsRange.new ..) (small_one h1 h2 h3 h4) ?_
 have I1 : Inv X pins σ H { s with heap := s.heap.push { cls := .type "range", data := .fields #[.int lo t, .int hi u, .int 1 v] }, toks := tk } := I.kept fun b o e => Heap.get?_push_of_some _ e
 refine ⟨(s.heap.push { cls := .type "range", data := .fields #[.int lo t, .int hi u, .int 1 v] }).objs.size, [(s.heap.push { cls := .type "range", data := .fields #[.int lo t, .int hi u, .int 1 v] }).objs.size], _, _, H, rfl,
   I1.kept (t' := tk) fun b o e => Heap.get?_push_of_some _ e, turn_range _ lo (hi - lo).toNat, ?_, fun b hb => ?_, q⟩
 · have e1 : lo + ((0 : Nat) : Int) * 1 = lo := by simp
   have e2 : (((hi - lo).toNat : Nat) : Int) - ((0 : Nat) : Int) = Builtin.Range.rangeSize lo hi 1 := by rw [rangeSize_one]; split <;> omega
   show IsRangeIter _ _ (lo + ((0 : Nat) : Int) * 1) ((((hi - lo).toNat : Nat) : Int) - ((0 : Nat) : Int)) 1
   rw [e1, e2]
   exact Heap.get?_push_size _ rfl
 · have e : b = (s.heap.push { cls := .type "range", data := .fields #[.int lo t, .int hi u, .int 1 v] }).objs.size := by simpa using hb
   subst e
   exact I1.fpOk (Nat.le_refl _) (I1.hok.fresh (Nat.le_refl _))
def iRng1 (ta : TA) : TI := fun σ H R => ta σ H fun vs H1 => ∃ j : Int, vs = [.int j] ∧ -(2 ^ 62) ≤ j ∧ j < 2 ^ 62 ∧ R (Itr 0 j.toNat) H1
theorem pi_range1 {a : Expr} {ta : TA} {p pos : Pos} (hg : Gl X "range") (hm : X.mg "range" = none) (ha : PA X [a] ta) (hs : starEach [a] X.env = [(false, eval a X.env)] := by rfl) : PI X tg (.Call (.Name "range" p) [a] [] pos) (iRng1 ta) := by
 intro pins s σ H R I h
 refine Call_ (ld_blt I hg hm boot_range (PyProof.Rows.callWith_type1 (thn (ha pos pins s σ H _ I h) fun us s1 ⟨vs, H1, I1, r1, q1⟩ => ?_) hs rfl))
 obtain ⟨j, e, q1, q2, q⟩ := q1
 subst e
 cases r1 with
 | cons r rr =>
   cases rr
   obtain ⟨t, rfl⟩ := r
   exact call_range_1 (range_it I1 (by omega) (by omega) q1 q2 (by simpa using q))
def tFor (wi : TI) (g : TG) (tb : TS) : TS := fun D σ H => wi σ H fun J H1 => ∃ W : Nat → Nat → St → Hp → Prop, (∃ m, W 0 m σ H1) ∧ ∀ i m σ H, W i m σ H →
 (J.stop i H ∧ D.nx σ H) ∨ (J.go i H ∧ ∃ N : St → Hp → Prop, (∀ σ' H', N σ' H' → ∃ m', m' < m ∧ W (i + 1) m' σ' H') ∧ ∀ x H', J.yld i H x H' → g x σ H' fun σ2 H2 => tb { D with nx := N, ct := N, bk := D.nx } σ2 H2)
def pinsAt (fp : List Addr) (h : Heap) : List (Addr × Obj) := fp.filterMap fun b => (h.get? b).map fun o => (b, o)
theorem mem_pinsAt {fp : List Addr} {h : Heap} {b : Addr} {o : Obj} (hb : b ∈ fp) (e : h.get? b = some o) : (b, o) ∈ pinsAt fp h := List.mem_filterMap.mpr ⟨b, hb, by rw [e]; rfl⟩
theorem of_pinsAt {fp : List Addr} {h : Heap} {p : Addr × Obj} (hp : p ∈ pinsAt fp h) : p.1 ∈ fp ∧ h.get? p.1 = some p.2 := by
 obtain ⟨b, hb, e⟩ := List.mem_filterMap.mp hp
 cases q : h.get? b with
 | none => rw [q] at e; cases e
 | some o =>
   rw [q] at e
   have e' : (b, o) = p := Option.some.inj e
   subst e'
   exact ⟨hb, q⟩
theorem Inv.pinned {pins : List (Addr × Obj)} {σ : St} {H : Hp} {s : Shared} {fp : List Addr} (I : Inv X pins σ H s) (hf : ∀ b ∈ fp, FpOk X pins H b) (ho : ∀ b ∈ fp, ∃ o, s.heap.get? b = some o ∧ ∀ v, o.data ≠ .cell v) : Inv X (pins ++ pinsAt fp s.heap) σ H s :=
 I.pins_of fun p hp => (List.mem_append.mp hp).elim (fun z => I.pin p (List.mem_append_right _ z)) fun z => by
   obtain ⟨hb, e⟩ := of_pinsAt z
   obtain ⟨f0, f1, f2, _⟩ := hf p.1 hb
   obtain ⟨o, e', d⟩ := ho p.1 hb
   rw [e] at e'; cases e'
   exact ⟨e, f0, f1, f2, d⟩
theorem Inv.unpinned {pins pl : List (Addr × Obj)} {σ : St} {H : Hp} {s : Shared} (I : Inv X (pins ++ pl) σ H s) : Inv X pins σ H s := I.pins_of fun p hp => I.pin p (List.mem_append_right _ (List.mem_append_left _ hp))
theorem ps_for {iter : Expr} {body : List Stmt} {wi : TI} {g : TG} {tb : TS} {pos : Pos} (hp : PassesOwn (model X.prog X.w) X.A X.env X.xe) (hc : X.calm = true) (hi : PI X tg iter wi) (hg : PG X tg g) (hb : PSs X body tb)
   (hs : ∀ x, foldedSetIterable iter X.env x = pure x := by intro _; rfl) : PS X (.For tg iter body [] pos) (tFor wi g tb) := by
 intro pins s σ H D I h
 refine wpAny_For (thn (hi pins s σ H _ I h) fun v s1 h1 => thn h1 fun itv s2 h2 => ?_) hs
 obtain ⟨it, fp, tn, J, H2, e, I2, T, st2, f2, W, ⟨m0, w0⟩, turn⟩ := h2
 subst e
 -- what stays true of the iterator's objects through the loop
 have stat : ∀ {H' : Hp}, (∀ b ∈ fp, H' b = none) → ∀ b ∈ fp, FpOk X pins H' b := fun hn b hb => ⟨hn b hb, (f2 b hb).2⟩
 refine codeAny_forLoop_any (fun n s' => ∃ i σ' H', Inv X pins σ' H' s' ∧ tn i s'.heap ∧ (∀ b ∈ fp, H' b = none) ∧ W i n σ' H') ?_ m0 ⟨0, σ, H2, I2, st2, fun b hb => (f2 b hb).1, w0⟩
 rintro n s3 ⟨i, σ3, H3, I3, st3, fr3, w3⟩
 rcases turn i n σ3 H3 w3 with ⟨stop, qn⟩ | ⟨go, N, hN, step⟩
 · refine wpAny_passesOwn hp (thn (T.done X rfl rfl rfl hc i pins s3 σ3 H3 X.xe I3 (stat fr3) st3 stop) fun r s4 ⟨hr, I4⟩ => ?_)
   subst hr
   exact wpAny_execs_nil ⟨σ3, H3, I4, qn⟩
 · refine wpAny_passesOwn hp (thn (T.item X rfl rfl rfl hc i pins s3 σ3 H3 X.xe I3 (stat fr3) st3 go) fun r s4 ⟨u, hr, h4⟩ => ?_)
   subst hr
   refine wpAny_passesOwn hp (thn h4 fun _ s5 ⟨x, H5, I5, r5, y5, st5, fr5⟩ => ?_)
   have I5' := I5.pinned (stat fr5) (T.obj _ _ st5)
   refine wpAny_passesOwn hp (thn (hg _ s5 σ3 H5 x u _ I5' r5 (step x H5 y5)) fun _ s6 ⟨σ6, H6, I6, q6⟩ => ?_)
   refine wpAny_passesOwn hp (thn (hb _ s6 σ6 H6 _ I6 q6) fun f s7 q7 => ?_)
   have again : ∀ {σ7 : St} {H7 : Hp}, Inv X (pins ++ pinsAt fp s5.heap) σ7 H7 s7 → N σ7 H7 → ∃ m, m < n ∧ ∃ i σ' H', Inv X pins σ' H' s7 ∧ tn i s7.heap ∧ (∀ b ∈ fp, H' b = none) ∧ W i m σ' H' := fun {σ7 H7} I7 n7 => by
     obtain ⟨m', hm, w7⟩ := hN σ7 H7 n7
     refine ⟨m', hm, i + 1, σ7, H7, I7.unpinned, T.keep _ _ _ st5 fun b hb o e => (I7.pin (b, o) (List.mem_append_right _ (List.mem_append_right _ (mem_pinsAt hb e)))).1, fun b hb => ?_, w7⟩
     obtain ⟨o, e, d⟩ := T.obj _ _ st5 b hb
     exact (I7.pin (b, o) (List.mem_append_right _ (List.mem_append_right _ (mem_pinsAt hb e)))).2.1
   cases f with
   | next => obtain ⟨σ7, H7, I7, n7⟩ := q7; exact again I7 n7
   | cont => obtain ⟨σ7, H7, I7, n7⟩ := q7; exact again I7 n7
   | brk => obtain ⟨σ7, H7, I7, q7⟩ := q7; exact ⟨σ7, H7, I7.unpinned, q7⟩
   | ret v => obtain ⟨x7, σ7, H7, I7, r7, q7⟩ := q7; exact ⟨x7, σ7, H7, I7.unpinned, r7, q7⟩
end
theorem for_list {K : PySem.W.Frag} {a : Addr} {xs : List V} {g : TG} {tb : TS} {D : Ends} {σ : St} {H : Hp} (Pv : Nat → St → Hp → Prop) (h0 : Pv 0 σ H) (hl : ∀ i σ H, i ≤ xs.length → Pv i σ H → SqL K H a xs)
   (hs : ∀ i x σ H, xs[i]? = some x → Pv i σ H → g x σ H fun σ2 H2 => tb { D with nx := Pv (i + 1), ct := Pv (i + 1), bk := D.nx } σ2 H2) (hd : ∀ σ H, Pv xs.length σ H → D.nx σ H) :
   ∃ W : Nat → Nat → St → Hp → Prop, (∃ m, W 0 m σ H) ∧ ∀ i m σ H, W i m σ H →
     ((Itl K a).stop i H ∧ D.nx σ H) ∨ ((Itl K a).go i H ∧ ∃ N : St → Hp → Prop, (∀ σ' H', N σ' H' → ∃ m', m' < m ∧ W (i + 1) m' σ' H') ∧ ∀ x H', (Itl K a).yld i H x H' → g x σ H' fun σ2 H2 => tb { D with nx := N, ct := N, bk := D.nx } σ2 H2) := by
 refine ⟨fun i m σ H => m = xs.length - i ∧ i ≤ xs.length ∧ Pv i σ H, ⟨xs.length, by simp, Nat.zero_le _, h0⟩, ?_⟩
 rintro i m σ H ⟨rfl, hi, p⟩
 have q := hl i σ H hi p
 by_cases hlt : i < xs.length
 · refine .inr ⟨⟨xs, xs[i], q, by simp [hlt]⟩, Pv (i + 1), fun σ' H' p' => ⟨xs.length - (i + 1), by omega, rfl, hlt, p'⟩, fun x H' y => ?_⟩
   obtain ⟨e, y⟩ := y
   subst e
   exact hs i x σ _ (y xs q) p
 · have e : i = xs.length := by omega
   subst e
   exact .inl ⟨⟨xs, q, Nat.le_refl _⟩, hd σ H p⟩
end L2
namespace L2
open PySem PySem.Spec PyProof.Rows
abbrev R2 := V → V → Hp → VK → Prop
def OpR (X : Cx) (f : Value → Value → Sem Value) (r : R2) : Prop :=
 ∀ (pins : List (Addr × Obj)) (s : Shared) (σ : St) (H : Hp) (x y : V) (v u : Value) (Q : VK), Inv X pins σ H s → RelV x v → RelV y u → r x y H Q →
   wpAny (model X.prog X.w) X.A (f v u) (EP X pins σ Q) X.xe s
def CallR (X : Cx) (f : Value) (r : List V → Hp → VK → Prop) : Prop :=
 ∀ (pins : List (Addr × Obj)) (s : Shared) (σ : St) (H : Hp) (xs : List V) (us : List Value) (Q : VK), Inv X pins σ H s → Vals xs us → r xs H Q →
   wpAny (model X.prog X.w) X.A (call f us) (EP X pins σ Q) X.xe s
def TruR (X : Cx) (r : V → Hp → (Bool → Hp → Prop) → Prop) : Prop :=
 ∀ (pins : List (Addr × Obj)) (s : Shared) (σ : St) (H : Hp) (x : V) (v : Value) (Q : Bool → Hp → Prop), Inv X pins σ H s → RelV x v → r x H Q →
   wpAny (model X.prog X.w) X.A (truthy v) (TP X pins σ Q) X.xe s
def tOp (r : R2) (ta tb : TE) : TE := fun σ H Q => ta σ H fun x H1 => tb σ H1 fun y H2 => r x y H2 Q
def rI (C : Int → Int → Prop) (g : Int → Int → V) : R2 := fun x y H Q => ∃ i j, x = .int i ∧ y = .int j ∧ C i j ∧ Q (g i j) H
def rI0 (g : Int → Int → V) : R2 := fun x y H Q => ∃ i j, x = .int i ∧ y = .int j ∧ Q (g i j) H
section
variable {X : Cx} {a b c : Expr} {ta tb tc : TE} {pos : Pos}
theorem binT (ha : PE X a ta) (hb : PE X b tb) {pins : List (Addr × Obj)} {s : Shared} {σ : St} {H : Hp} {R : V → V → Hp → Prop} (I : Inv X pins σ H s)
   (h : ta σ H fun x H1 => tb σ H1 fun y H2 => R x y H2) {Q : Value → Shared → Prop} {f : Value → Value → Sem Value}
   (hf : ∀ v u s2 x y H2, Inv X pins σ H2 s2 → RelV x v → RelV y u → R x y H2 → wpAny (model X.prog X.w) X.A (f v u) Q X.xe s2) :
   wpAny (model X.prog X.w) X.A (eval a X.env) (fun v s₁ => wpAny (model X.prog X.w) X.A (eval b X.env) (fun u s₂ => wpAny (model X.prog X.w) X.A (f v u) Q X.xe s₂) X.xe s₁) X.xe s := by
 refine thn (ha pins s σ H _ I h) fun v s1 ⟨x, H1, I1, r1, q1⟩ => ?_
 refine thn (hb pins s1 σ H1 _ I1 q1) fun u s2 ⟨y, H2, I2, r2, q2⟩ => ?_
 exact hf v u s2 x y H2 I2 r1 r2 q2
theorem pe_op {op : Operator} {r : R2} (ho : OpR X (binaryOp op) r) (ha : PE X a ta) (hb : PE X b tb) : PE X (.BinOp a op b pos) (tOp r ta tb) := by
 intro pins s σ H Q I h
 exact wpAny_BinOp (binT ha hb I h fun v u s2 x y H2 I2 rx ry q => ho pins s2 σ H2 x y v u Q I2 rx ry q)
theorem opI {f : Value → Value → Sem Value} {C : Int → Int → Prop} {g : Int → Int → Int}
   (rule : ∀ (i j : Int) (t u : Tok) (s : Shared) (Q : Value → Shared → Prop) (E : Value → Shared → Prop), C i j → Q (.int (g i j) s.toks) { s with toks := s.toks + 1 } → wpAny (model X.prog X.w) X.A (f (.int i t) (.int j u)) Q E s) :
   OpR X f (rI C fun i j => .int (g i j)) := by
 intro pins s σ H x y v u Q I rx ry h
 obtain ⟨i, j, rfl, rfl, hc, q⟩ := h
 obtain ⟨t, rfl⟩ := rx
 obtain ⟨t', rfl⟩ := ry
 exact rule i j t t' s _ _ hc ⟨.int (g i j), H, I.tok _, ⟨_, rfl⟩, q⟩
theorem opI0 {f : Value → Value → Sem Value} {g : Int → Int → Int}
   (rule : ∀ (i j : Int) (t u : Tok) (s : Shared) (Q : Value → Shared → Prop) (E : Value → Shared → Prop), Q (.int (g i j) s.toks) { s with toks := s.toks + 1 } → wpAny (model X.prog X.w) X.A (f (.int i t) (.int j u)) Q E s) :
   OpR X f (rI0 fun i j => .int (g i j)) := by
 intro pins s σ H x y v u Q I rx ry h
 obtain ⟨i, j, rfl, rfl, q⟩ := h
 obtain ⟨t, rfl⟩ := rx
 obtain ⟨t', rfl⟩ := ry
 exact rule i j t t' s _ _ ⟨.int (g i j), H, I.tok _, ⟨_, rfl⟩, q⟩
theorem opB0 {f : Value → Value → Sem Value} {g : Int → Int → Bool}
   (rule : ∀ (i j : Int) (t u : Tok) (s : Shared) (Q : Value → Shared → Prop) (E : Value → Shared → Prop), Q (.bool (g i j)) s → wpAny (model X.prog X.w) X.A (f (.int i t) (.int j u)) Q E s) :
   OpR X f (rI0 fun i j => .bl (g i j)) := by
 intro pins s σ H x y v u Q I rx ry h
 obtain ⟨i, j, rfl, rfl, q⟩ := h
 obtain ⟨t, rfl⟩ := rx
 obtain ⟨t', rfl⟩ := ry
 exact rule i j t t' s _ _ ⟨.bl (g i j), H, I, rfl, q⟩
def CDiv (i j : Int) : Prop := 0 < j ∧ j < 1073741824
def CPow (i j : Int) : Prop := 0 ≤ j ∧ j ≤ 1000000 ∧ i.natAbs < 2 ^ 64
def CMul (i j : Int) : Prop := (-(2 ^ 64) < i ∧ i < 2 ^ 64) ∨ (-(2 ^ 64) < j ∧ j < 2 ^ 64)
theorem CMul.ok {i j : Int} (h : CMul i j) : IntMulOk i j := by
 rcases h with ⟨h1, h2⟩ | ⟨h1, h2⟩
 · exact .of_left (intBits_le_64 h1 h2)
 · exact .of_right (intBits_le_64 h1 h2)
theorem op_add : OpR X (binaryOp .Add) (rI0 fun i j => .int (i + j)) := opI0 fun _ _ _ _ _ _ _ q => add_int q
theorem op_sub : OpR X (binaryOp .Sub) (rI0 fun i j => .int (i - j)) := opI0 fun _ _ _ _ _ _ _ q => sub_int q
theorem op_mul : OpR X (binaryOp .Mult) (rI CMul fun i j => .int (i * j)) := opI fun _ _ _ _ _ _ _ hc q => mul_int q hc.ok
theorem op_fdiv : OpR X (binaryOp .FloorDiv) (rI CDiv fun i j => .int (i / j)) := opI fun i j _ _ _ _ _ hc q => by
 have h1 : (0 : Int) < j := hc.1
 have h2 : j < 1073741824 := hc.2
 exact floordiv_int (by omega) (by rw [Int.fdiv_eq_ediv_of_nonneg i (by omega)]; exact q) (.inl (PyProof.noPylong_small (by omega)))
theorem op_mod : OpR X (binaryOp .Mod) (rI (fun _ j => 0 < j) fun i j => .int (i % j)) := opI fun i j _ _ _ _ _ hc q => by
 have h1 : (0 : Int) < j := hc
 exact mod_int' (by omega) (by rw [Int.fmod_eq_emod_of_nonneg i (by omega)]; exact q)
theorem op_pow : OpR X (binaryOp .Pow) (rI CPow fun i j => .int (i ^ j.toNat)) := opI fun _ _ _ _ _ _ _ hc q => pow_int_small hc.1 hc.2.1 hc.2.2 q
end
def scal : V → V → Bool
 | .non, .non => true | .non, .int _ => true | .int _, .non => true | .non, .bl _ => true | .bl _, .non => true | .non, .str _ => true | .str _, .non => true
 | .int _, .int _ => true | .bl _, .bl _ => true | .str _, .str _ => true | .byt _, .byt _ => true
 | .int _, .str _ => true | .str _, .int _ => true | .bl _, .str _ => true | .str _, .bl _ => true
 | _, _ => false
def rEq : R2 := fun x y H Q => scal x y = true ∧ Q (.bl (decide (x = y))) H
theorem dec_int {i j : Int} : decide (V.int i = V.int j) = (i == j) := by
 rw [Bool.eq_iff_iff]
 simp
theorem dec_bl {i j : Bool} : decide (V.bl i = V.bl j) = (i == j) := by
 rw [Bool.eq_iff_iff]
 simp
theorem dec_str {i j : Str} : decide (V.str i = V.str j) = (i == j) := by
 rw [Bool.eq_iff_iff]
 simp
theorem dec_byt {i j : Array UInt8} : decide (V.byt i = V.byt j) = (i.toList == j.toList) := by
 rw [Bool.eq_iff_iff]
 cases i
 cases j
 simp
section
variable {X : Cx} {a b c : Expr} {ta tb tc : TE} {pos : Pos}
theorem fin_bl {pins : List (Addr × Obj)} {σ : St} {H : Hp} {s : Shared} {Q : VK} {k k' : Bool} (I : Inv X pins σ H s) (q : Q (.bl k) H) (e : k = k') : EP X pins σ Q (.bool k') s := by
 subst e
 exact ⟨.bl k, H, I, rfl, q⟩
theorem op_eq : OpR X (compareOp .Eq) rEq := by
 intro pins s σ H x y v u Q I rx ry h
 obtain ⟨hs, q⟩ := h
 cases x with
 | non =>
   cases rx
   cases y with
   | non => cases ry; exact PySem.EqNone.eq_none_none (fin_bl I q (by simp))
   | bl j => cases ry; exact PySem.EqNone.eq_none_bool (fin_bl I q (by simp))
   | int j => obtain ⟨t', rfl⟩ := ry; exact PySem.EqNone.eq_none_int (fin_bl I q (by simp))
   | str j => obtain ⟨t', rfl⟩ := ry; exact PySem.EqNone.eq_none_str (fin_bl I q (by simp))
   | _ => exact absurd (show false = true from hs) Bool.false_ne_true
 | bl i =>
   cases rx
   cases y with
   | non => cases ry; exact PySem.EqNone.eq_bool_none (fin_bl I q (by simp))
   | bl j => cases ry; exact eq_bool (fin_bl I q dec_bl)
   | str j => obtain ⟨t', rfl⟩ := ry; exact PySem.EqMixed.eq_bool_str (fin_bl I q (by simp))
   | _ => exact absurd (show false = true from hs) Bool.false_ne_true
 | int i =>
   obtain ⟨t, rfl⟩ := rx
   cases y with
   | non => cases ry; exact PySem.EqNone.eq_int_none (fin_bl I q (by simp))
   | int j => obtain ⟨t', rfl⟩ := ry; exact eq_int (fin_bl I q dec_int)
   | str j => obtain ⟨t', rfl⟩ := ry; exact PySem.EqMixed.eq_int_str (fin_bl I q (by simp))
   | _ => exact absurd (show false = true from hs) Bool.false_ne_true
 | str i =>
   obtain ⟨t, rfl⟩ := rx
   cases y with
   | non => cases ry; exact PySem.EqNone.eq_str_none (fin_bl I q (by simp))
   | bl j => cases ry; exact PySem.EqMixed.eq_str_bool (fin_bl I q (by simp))
   | int j => obtain ⟨t', rfl⟩ := ry; exact PySem.EqMixed.eq_str_int (fin_bl I q (by simp))
   | str j => obtain ⟨t', rfl⟩ := ry; exact eq_str (fin_bl I q dec_str)
   | _ => exact absurd (show false = true from hs) Bool.false_ne_true
 | byt i =>
   obtain ⟨t, rfl⟩ := rx
   cases y with
   | byt j => obtain ⟨t', rfl⟩ := ry; exact PySem.W.eq_bytes (fin_bl I q dec_byt)
   | _ => exact absurd (show false = true from hs) Bool.false_ne_true
 | _ => cases y <;> exact absurd (show false = true from hs) Bool.false_ne_true
theorem op_lt : OpR X (compareOp .Lt) (rI0 fun i j => .bl (decide (i < j))) := opB0 fun _ _ _ _ _ _ _ q => lt_int q
theorem op_le : OpR X (compareOp .LtE) (rI0 fun i j => .bl (decide (i ≤ j))) := opB0 fun _ _ _ _ _ _ _ q => le_int q
theorem op_gt : OpR X (compareOp .Gt) (rI0 fun i j => .bl (decide (j < i))) := opB0 fun _ _ _ _ _ _ _ q => gt_int q
theorem op_ge : OpR X (compareOp .GtE) (rI0 fun i j => .bl (decide (j ≤ i))) := opB0 fun _ _ _ _ _ _ _ q => ge_int q
theorem op_in_str : OpR X (compareOp .In) (fun x y H Q => ∃ i j, x = .str i ∧ y = .str j ∧ Q (.bl (!(Builtin.Str.occurrences j i 0 j.length 1).isEmpty)) H) := by
 intro pins s σ H x y v u Q I rx ry h
 obtain ⟨i, j, rfl, rfl, q⟩ := h
 obtain ⟨t, rfl⟩ := rx
 obtain ⟨t', rfl⟩ := ry
 exact in_str (fin_bl I q rfl)
theorem op_notin_str : OpR X (compareOp .NotIn) (fun x y H Q => ∃ i j, x = .str i ∧ y = .str j ∧ Q (.bl (!(!(Builtin.Str.occurrences j i 0 j.length 1).isEmpty))) H) := by
 intro pins s σ H x y v u Q I rx ry h
 obtain ⟨i, j, rfl, rfl, q⟩ := h
 obtain ⟨t, rfl⟩ := rx
 obtain ⟨t', rfl⟩ := ry
 exact notIn_str (fin_bl I q rfl)
theorem OpR.or {f : Value → Value → Sem Value} {r r' : R2} (h : OpR X f r) (h' : OpR X f r') : OpR X f (fun x y H Q => r x y H Q ∨ r' x y H Q) := by
 intro pins s σ H x y v u Q I rx ry q
 rcases q with q | q
 · exact h pins s σ H x y v u Q I rx ry q
 · exact h' pins s σ H x y v u Q I rx ry q
theorem nomark (b : Expr) {op : CmpOp} (h : op ≠ .In := by decide) (h2 : op ≠ .NotIn := by decide) : behindInMarks op b = false := by
 have e1 : (op == CmpOp.In) = false := by cases op <;> first | rfl | exact absurd rfl h
 have e2 : (op == CmpOp.NotIn) = false := by cases op <;> first | rfl | exact absurd rfl h2
 cases b <;> simp [behindInMarks, e1, e2]
def tTest (t : TE) : TT := fun σ H Q => t σ H fun x H' => ∃ k, x = .bl k ∧ Q k H'
theorem pt_cmpR {op : CmpOp} {r : R2} (ho : OpR X (compareOp op) r) (ha : PE X a ta) (hb : PE X b tb) (hm : behindInMarks op b = false) : PT X (.Compare a [op] [b] pos) (tTest (tOp r ta tb)) := by
 intro pins s σ H Q I h
 refine wpAny_isTrue_Compare1 (thn (ha pins s σ H _ I h) fun v s1 ⟨x, H1, I1, r1, q1⟩ => thn (hb pins s1 σ H1 _ I1 q1) fun u s2 ⟨y, H2, I2, r2, q2⟩ =>
   thn (ho pins s2 σ H2 x y v u _ I2 r1 r2 q2) fun c s3 ⟨z, H3, I3, r3, k, e, q3⟩ => ?_) hm
 subst e
 cases r3
 exact wpAny_truthy_bool ⟨H3, I3, q3⟩
def tChain (r r' : R2) (ta tb tc : TE) : TE := fun σ H Q => ta σ H fun x H1 => tb σ H1 fun y H2 => r x y H2 fun z H3 => ∃ k, z = .bl k ∧
 (if k = true then tc σ H3 fun w' H4 => r' y w' H4 Q else Q (.bl false) H3)
theorem pt_chain {op op' : CmpOp} {r r' : R2} (ho : OpR X (compareOp op) r) (ho' : OpR X (compareOp op') r') (ha : PE X a ta) (hb : PE X b tb) (hc : PE X c tc)
   (hm : lastMarks [op, op'] [b, c] = false := by with_unfolding_all rfl) : PT X (.Compare a [op, op'] [b, c] pos) (tTest (tChain r r' ta tb tc)) := by
 intro pins s σ H Q I h
 refine isTrue_chain (thn (ha pins s σ H _ I h) fun v s1 ⟨x, H1, I1, r1, q1⟩ => test_link (thn (hb pins s1 σ H1 _ I1 q1) fun u s2 ⟨y, H2, I2, r2, q2⟩ =>
   thn (ho pins s2 σ H2 x y v u _ I2 r1 r2 q2) fun d s3 ⟨z, H3, I3, r3, k, e, q3⟩ => ?_)) hm
 subst e
 cases r3
 refine wpAny_truthy_bool ?_
 cases k with
 | false =>
   obtain ⟨k', e', q'⟩ := q3
   cases e'
   exact ite_ff ⟨H3, I3, q'⟩
 | true =>
   refine ite_tt (test_last (thn (hc pins s3 σ H3 _ I3 q3) fun w' s4 ⟨z', H4, I4, r4, q4⟩ => thn (ho' pins s4 σ H4 y z' u w' _ I4 r2 r4 q4) fun d' s5 ⟨z2, H5, I5, r5, k2, e2, q5⟩ => ?_))
   subst e2
   cases r5
   exact wpAny_truthy_bool ⟨H5, I5, q5⟩
def TruV (K : PySem.W.Frag) (x : V) (H : Hp) (k : Bool) : Prop :=
 match x with
 | .non => k = false
 | .bl b => k = b
 | .int i => k = (i != 0)
 | .str y => y.length ≤ sizeLine ∧ k = ((y.length : Int) != 0)
 | .byt y => y.size ≤ sizeLine ∧ k = ((y.size : Int) != 0)
 | .ref p => (∃ xs, SqL K H p xs ∧ k = !xs.isEmpty) ∨ (∃ xs, SqT K H p xs ∧ k = !xs.isEmpty) ∨ ∃ kvs, H p = some (.dK kvs) ∧ k = !kvs.isEmpty
 | _ => False
theorem isEmpty_kv {κ : Type} {kvs : List (κ × V)} {vs : List (κ × Value)} (r : KV kvs vs) : (!vs.isEmpty) = !kvs.isEmpty := by
 cases r <;> rfl
theorem isEmpty_of {xs : List V} {its : List Value} (r : Vals xs its) : (!its.toArray.isEmpty) = !xs.isEmpty := by
 cases r <;> simp
theorem line63 : (sizeLine : Nat) < 2 ^ 63 := by rw [sizeLine_eq]; decide
theorem tru_ok : TruR X (fun x H Q => ∃ k, TruV X.K x H k ∧ Q k H) := by
 intro pins s σ H x v Q I rx h
 obtain ⟨k, e, q⟩ := h
 have hl := line63
 have hs : sizeLine = 16777216 := sizeLine_eq
 cases x with
 | non =>
   cases rx
   have e' : k = false := e
   subst e'
   exact truthy_none ⟨H, I, q⟩
 | bl b =>
   cases rx
   have e' : k = b := e
   subst e'
   exact wpAny_truthy_bool ⟨H, I, q⟩
 | int i =>
   obtain ⟨t, rfl⟩ := rx
   have e' : k = (i != 0) := e
   subst e'
   exact PySem.P.truthy_int ⟨H, I, q⟩
 | str y =>
   obtain ⟨t, rfl⟩ := rx
   obtain ⟨hy, e'⟩ : y.length ≤ sizeLine ∧ k = ((y.length : Int) != 0) := e
   subst e'
   exact PySem.P.truthy_str (by omega) ⟨H, I.tok _, q⟩
 | byt y =>
   obtain ⟨t, rfl⟩ := rx
   obtain ⟨hy, e'⟩ : y.size ≤ sizeLine ∧ k = ((y.size : Int) != 0) := e
   subst e'
   exact PySem.W.truthy_bytes (by omega) ⟨H, I.tok _, q⟩
 | ref p =>
   cases rx
   have e' : (∃ xs, SqL X.K H p xs ∧ k = !xs.isEmpty) ∨ (∃ xs, SqT X.K H p xs ∧ k = !xs.isEmpty) ∨ ∃ kvs, H p = some (.dK kvs) ∧ k = !kvs.isEmpty := e
   rcases e' with ⟨xs, hx, e'⟩ | ⟨xs, hx, e'⟩ | ⟨kvs, hx, e'⟩
   · subst e'
     obtain ⟨its, r, pl, hz⟩ := I.list hx
     have hlen := r.length
     exact wpAny_truthy_list pl.isList (by simp only [List.size_toArray]; omega) ⟨H, I.tok _, by rw [isEmpty_of r]; exact q⟩
   · subst e'
     obtain ⟨its, r, pl, hz⟩ := I.tuple hx
     have hlen := r.length
     exact truthy_tuple pl (by simp only [List.size_toArray]; omega) ⟨H, I.tok _, by rw [isEmpty_of r]; exact q⟩
   · subst e'
     obtain ⟨hz, hS, vs, r, m⟩ : kvs.length ≤ sizeLine ∧ (p == sysModules) = false ∧ ∃ vs, KV kvs vs ∧ s.heap.DictOf (mixKind X.prog X.w) p vs := I.hok p _ hx
     have hlen : kvs.length = vs.length := Paired.length r
     exact wpAny_truthy_dict hS m (by omega) ⟨H, I.tok _, by rw [isEmpty_kv r]; exact q⟩
 | _ => exact (show False from e).elim
theorem pt_truth (ha : PE X a ta) (he : ∀ whole, isTrue a X.env whole = (do let v ← whole; standAt a.pos; holding [v] (truthy v))) :
   PT X a (fun σ H Q => ta σ H fun x H' => ∃ k, TruV X.K x H' k ∧ Q k H') := by
 intro pins s σ H Q I h
 exact isTrue_plain (thn (ha pins s σ H _ I h) fun v s1 ⟨x, H1, I1, r1, q1⟩ => tru_ok pins s1 σ H1 x v Q I1 r1 q1) (he _)
theorem op_add_str : OpR X (binaryOp .Add) (fun x y H Q => ∃ i j, x = .str i ∧ y = .str j ∧ i.length + j.length ≤ sizeLine ∧ Q (.str (i ++ j)) H) := by
 intro pins s σ H x y v u Q I rx ry h
 obtain ⟨i, j, rfl, rfl, hz, q⟩ := h
 obtain ⟨t, rfl⟩ := rx
 obtain ⟨t', rfl⟩ := ry
 exact add_str (fun t' tk => ⟨.str (i ++ j), H, I.tok _, ⟨_, rfl⟩, q⟩) hz
theorem vals1 {x : V} {us : List Value} (r : Vals [x] us) : ∃ u, us = [u] ∧ RelV x u := by
 cases r with
 | cons r1 r2 => cases r2; exact ⟨_, rfl, r1⟩
theorem vals2 {x y : V} {us : List Value} (r : Vals [x, y] us) : ∃ u w', us = [u, w'] ∧ RelV x u ∧ RelV y w' := by
 cases r with
 | cons r1 r2 =>
   cases r2 with
   | cons r3 r4 => cases r4; exact ⟨_, _, rfl, r1, r3⟩
theorem call_max2 (hc : X.calm = true) : CallR X (.builtin "max") (fun xs H Q => ∃ i j, xs = [.int i, .int j] ∧ Q (.int (if j > i then j else i)) H) := by
 intro pins s σ H xs us Q I r h
 obtain ⟨i, j, rfl, q⟩ := h
 obtain ⟨u, w', rfl, ⟨t, rfl⟩, ⟨t', rfl⟩⟩ := vals2 r
 refine max_two_ints (I.ok.hd hc) fun h' tk k => ⟨_, H, I.kept k, ?_, q⟩
 by_cases hj : j > i
 · rw [if_pos hj, if_pos hj]; exact ⟨_, rfl⟩
 · rw [if_neg hj, if_neg hj]; exact ⟨_, rfl⟩
def LenV (K : PySem.W.Frag) (x : V) (H : Hp) (n : Nat) : Prop :=
 match x with
 | .str y => y.length ≤ sizeLine ∧ n = y.length
 | .byt y => y.size ≤ sizeLine ∧ n = y.size
 | .ref p => (∃ xs, SqL K H p xs ∧ n = xs.length) ∨ ∃ xs, SqT K H p xs ∧ n = xs.length
 | _ => False
theorem call_len : CallR X (.builtin "len") (fun xs H Q => ∃ x n, xs = [x] ∧ LenV X.K x H n ∧ Q (.int n) H) := by
 intro pins s σ H xs us Q I r h
 obtain ⟨x, n, rfl, e, q⟩ := h
 obtain ⟨u, rfl, rx⟩ := vals1 r
 have hl := line63
 have hs : sizeLine = 16777216 := sizeLine_eq
 cases x with
 | str y =>
   obtain ⟨t, rfl⟩ := rx
   obtain ⟨hy, e'⟩ : y.length ≤ sizeLine ∧ n = y.length := e
   subst e'
   exact len_str (by omega) ⟨.int _, H, I.tok _, ⟨_, rfl⟩, q⟩
 | byt y =>
   obtain ⟨t, rfl⟩ := rx
   obtain ⟨hy, e'⟩ : y.size ≤ sizeLine ∧ n = y.size := e
   subst e'
   exact PySem.W.len_bytes (by omega) ⟨.int _, H, I.tok _, ⟨_, rfl⟩, q⟩
 | ref p =>
   cases rx
   have e' : (∃ xs, SqL X.K H p xs ∧ n = xs.length) ∨ ∃ xs, SqT X.K H p xs ∧ n = xs.length := e
   rcases e' with ⟨xs, hx, e'⟩ | ⟨xs, hx, e'⟩
   · subst e'
     obtain ⟨its, r', pl, hz⟩ := I.list hx
     have hlen := r'.length
     exact Calls.call_len_list pl.isList (by simp only [List.size_toArray]; omega) ⟨.int xs.length, H, I.tok _, ⟨_, by simp only [List.size_toArray]; rw [hlen]⟩, q⟩
   · subst e'
     obtain ⟨its, r', pl, hz⟩ := I.tuple hx
     have hlen := r'.length
     exact len_tuple pl (by simp only [List.size_toArray]; omega) ⟨.int xs.length, H, I.tok _, ⟨_, by simp only [List.size_toArray]; rw [hlen]⟩, q⟩
 | _ => exact (show False from e).elim
end
end L2
namespace L2
open PySem PySem.Spec PyProof.Rows
structure ObjM (h : Heap) (x dx C : Addr) (mA : Str → Option Value) : Prop where
 obj : h.get? x = some (PySem.W.instObj C dx)
 ns : h.Ns1 dx mA
 ne : dx ≠ x
theorem lookIn_ns {h : Heap} {dx : Addr} {mA : Str → Option Value} (n : h.Ns1 dx mA) : ∃ od, h.get? dx = some od ∧ ∀ name, PySem.W.lookIn name od = some (mA name) := by
 obtain ⟨o, es, ep, ho, hd, hk, _, hm⟩ := n
 refine ⟨o, ho, fun name => ?_⟩
 have e := hm name
 unfold nsFind findBy at e
 rw [← Array.find?_toList] at e
 unfold PySem.W.lookIn
 rw [hd]
 dsimp only
 split
 · rename_i y q
   rw [q] at e
   exact congrArg some e
 · rename_i q
   rw [q] at e
   have a : es.toList.any (·.refKey) = false := by
     rw [List.any_eq_false]
     intro y hy
     obtain ⟨z, t, hkey⟩ := hk y (Array.mem_toList_iff.mp hy)
     simp [DictEntry.refKey, hkey]
   have a' : ¬ es.toList.any (·.refKey) = true := by rw [a]; exact Bool.false_ne_true
   rw [if_neg a']
   exact congrArg some e
theorem ObjM.look {h : Heap} {x dx C : Addr} {mA : Str → Option Value} (I : ObjM h x dx C mA) : ∃ od, PySem.W.InstAt h x (PySem.W.instObj C dx) C (some od) ∧ ∀ name, PySem.W.lookIn name od = some (mA name) :=
 let ⟨od, ho, hl⟩ := lookIn_ns I.ns
 ⟨od, ⟨I.obj, rfl, rfl, ho⟩, hl⟩
theorem RelO.some_of {v : V} {o : Option Value} (r : RelO (some v) o) : ∃ u, o = some u ∧ RelV v u := by
 cases o with
 | none => exact (show False from r).elim
 | some u => exact ⟨u, rfl, r⟩
section
variable {P : Program} {w : World} {H H' : Hp} {h h' : Heap} {a C dx : Addr} {fs fs' : List (Str × V)}
theorem ins_get (hok : HOk P w H h) (e : H a = some (.ins C dx fs)) : ∃ mA, ObjM h a dx C mA ∧ (∀ f, RelO (fs.lookup f) (mA f)) ∧ PySem.Within mA (fs.map (·.1)) ∧ fs.length ≤ 1000 ∧ H dx = some (.own a) := by
 obtain ⟨d, z, ne, ob, mA, n, r, q⟩ := (show ObjOk P w H h a (.ins C dx fs) from hok a _ e)
 exact ⟨mA, ⟨ob, n, ne⟩, r, q, z, d⟩
end
structure Cls (K : PySem.W.Frag) (C : Addr) : Prop where
 pg : PySem.W.plainGet K C Str.empty = true
 hd : PySem.W.hasDictIn K C = true
 po : PySem.W.plainOver K C = true
 sa : PySem.W.findIn K (.ref C) "__setattr__" = some (some (.builtin "object.__setattr__"))
theorem Cls.get {K : PySem.W.Frag} {C : Addr} (c : Cls K C) (f : Str) : PySem.W.plainGet K C f = true := c.pg
section
variable {X : Cx} {pins : List (Addr × Obj)} {σ : St} {H : Hp} {s : Shared} {A : Around} {E : Value → Shared → Prop} {Q : Value → Shared → Prop} {c : Value} {b : Bool}
inductive TyOf (K : PySem.W.Frag) (H : Hp) : V → Value → Prop where
 | non : TyOf K H .non (.type "NoneType")
 | bl (x : Bool) : TyOf K H (.bl x) (.type "bool")
 | int (i : Int) : TyOf K H (.int i) (.type "int")
 | str (x : Str) : TyOf K H (.str x) (.type "str")
 | flt (x : UInt64) : TyOf K H (.flt x) (.type "float")
 | lst {a : Addr} {xs : List V} (e : H a = some (.lst xs)) : TyOf K H (.ref a) (.type "list")
 | frz {a : Addr} {o : Obj} {xs : List V} (e : H a = some (.frz o (.lst xs))) : TyOf K H (.ref a) (.type "list")
 | tup {a : Addr} {xs : List V} (e : H a = some (.tup xs)) : TyOf K H (.ref a) (.type "tuple")
 | dK {a : Addr} {kvs : List (Key × V)} (e : H a = some (.dK kvs)) : TyOf K H (.ref a) (.type "dict")
 | dT {a : Addr} {kvs : List (List Key × V)} (e : H a = some (.dT kvs)) : TyOf K H (.ref a) (.type "dict")
 | ins {a C dx : Addr} {fs : List (Str × V)} (e : H a = some (.ins C dx fs)) (cl : Cls K C) (ha : PySem.W.findIn K (.ref C) "__class__" = some (some (.builtin "object.__class__")))
     (hn : PySem.W.specialIn K (.builtin "object.__class__") "__get__" = some (some (.builtin "getset_descriptor.__get__"))) (htk : PySem.W.takesIn K (.builtin "object.__class__") = some true)
     (hm : PySem.W.mroIn K C (.type "object") = some true) : TyOf K H (.ref a) (.ref C)
theorem isinst_ok {x : V} {u t : Value} (I : Inv X pins σ H s) (rx : RelV x u) (ty : TyOf X.K H x t) (e : PySem.W.kitOne X.K t c = some b) (h : ∀ tk, Q (.bool b) { s with toks := tk }) :
   wpAny (model X.prog X.w) A (call (.builtin "isinstance") [u, c]) Q E s := by
 cases ty with
 | non => cases (show u = Value.none from rx); exact PySem.W.kia_one PySem.W.kitx_none I.kIn True.intro e (fun z => nomatch z) h
 | bl y => cases (show u = Value.bool y from rx); exact PySem.W.kia_one PySem.W.kitx_bool I.kIn True.intro e (fun z => nomatch z) h
 | int i => obtain ⟨t, q⟩ := (show ∃ t, u = Value.int i t from rx); cases q; exact PySem.W.kia_one PySem.W.kitx_int I.kIn True.intro e (fun z => nomatch z) h
 | str y => obtain ⟨t, q⟩ := (show ∃ t, u = Value.str y t from rx); cases q; exact PySem.W.kia_one PySem.W.kitx_str I.kIn True.intro e (fun z => nomatch z) h
 | flt y => obtain ⟨t, q⟩ := (show ∃ t, u = Value.float y t from rx); cases q; exact PySem.W.kia_one PySem.W.kitx_float I.kIn True.intro e (fun z => nomatch z) h
 | @lst a xs ea =>
   cases (show u = Value.ref a from rx)
   obtain ⟨_, _, n, _, h1⟩ := (show ObjOk X.prog X.w H s.heap a (.lst xs) from I.hok a _ ea)
   exact PySem.W.kia_one PySem.W.kitx_list I.kIn ⟨_, h1, rfl⟩ e (fun z => nomatch z) h
 | @frz a ob xs ea =>
   cases (show u = Value.ref a from rx)
   obtain ⟨_, _, _, n, _, h1⟩ := (show ObjOk X.prog X.w H s.heap a (.frz ob (.lst xs)) from I.hok a _ ea)
   exact PySem.W.kia_one PySem.W.kitx_list I.kIn ⟨_, h1, rfl⟩ e (fun z => nomatch z) h
 | @tup a xs ea =>
   cases (show u = Value.ref a from rx)
   obtain ⟨_, _, _, p⟩ := (show ObjOk X.prog X.w H s.heap a (.tup xs) from I.hok a _ ea)
   obtain ⟨o, h1, h2, _⟩ := p
   exact PySem.W.kia_one PySem.W.kitx_tuple I.kIn ⟨o, h1, h2⟩ e (fun z => nomatch z) h
 | @dK a kvs ea =>
   cases (show u = Value.ref a from rx)
   obtain ⟨_, _, vs, _, p⟩ := (show ObjOk X.prog X.w H s.heap a (.dK kvs) from I.hok a _ ea)
   obtain ⟨o, es, ep, h1, h2, _⟩ := p
   exact PySem.W.kia_one PySem.W.kitx_dict I.kIn ⟨o, h1, h2.1⟩ e (fun z => nomatch z) h
 | @dT a kvs ea =>
   cases (show u = Value.ref a from rx)
   obtain ⟨_, _, xs, _, o, es, ep, h1, h2, _⟩ := (show ObjOk X.prog X.w H s.heap a (.dT kvs) from I.hok a _ ea)
   exact PySem.W.kia_one PySem.W.kitx_dict I.kIn ⟨o, h1, h2.1⟩ e (fun z => nomatch z) h
 | @ins a C dx fs ea cl ha hn htk hm =>
   cases (show u = Value.ref a from rx)
   obtain ⟨mA, O, _⟩ := ins_get I.hok ea
   obtain ⟨od, J, _⟩ := O.look
   exact PySem.W.kia_one (PySem.W.kitx_own (cl.get _) cl.hd ha hn htk hm) I.kIn J e (fun z => nomatch z) h
end
end L2
namespace L2
open PySem PySem.Spec PyProof.Rows
structure Room (k : Nat) (A : Around) : Prop where
 hd : A.handled = none
 dp : A.depth + 3 * k + 5 < recursionLimit
 un : A.units + 16 * k + 200 < cLine
 gd : A.guards = some []
theorem Room.mono {j k : Nat} {A : Around} (r : Room k A) (h : j ≤ k) : Room j A := ⟨r.hd, by have := r.dp; omega, by have := r.un; omega, r.gd⟩
theorem Room.deeper {k : Nat} {A : Around} (r : Room (k + 1) A) (env : Env) : Room k (A.deeper env) :=
 ⟨r.hd, by have := r.dp; show A.depth + 1 + 3 * k + 5 < _; omega, by have := r.un; show A.units + 3 + 16 * k + 200 < _; omega, r.gd⟩
theorem Room.depth {k : Nat} {A : Around} (r : Room k A) : A.depth < recursionLimit := by have := r.dp; omega
theorem Room.units {k : Nat} {A : Around} (r : Room k A) : A.units + 64 < cLine := by have := r.un; omega
def tNil : TA := fun _ H Q => Q [] H
def tCons (ta : TE) (tr : TA) : TA := fun σ H Q => ta σ H fun x H1 => tr σ H1 fun xs H2 => Q (x :: xs) H2
section
variable {X : Cx} {e : Expr} {es : List Expr} {te : TE} {t : TA} {pos : Pos}
theorem pa_nil : PA X [] tNil := fun _ _ _ _ H Q I h => Calls.spliced_nil ⟨[], H, I, .nil, h⟩
theorem pa_cons (ha : PE X e te) (hr : PA X es t) (hs : starEach (e :: es) X.env = (false, eval e X.env) :: starEach es X.env := by rfl) : PA X (e :: es) (tCons te t) := by
 intro pos pins s σ H Q I h
 rw [hs]
 show wpAny _ _ (spliced ((false, eval e X.env) :: backTo pos (starEach es X.env))) _ _ s
 refine Calls.spliced_cons (thn (ha pins s σ H _ I h) fun u s1 ⟨x, H1, I1, r1, q1⟩ => ?_)
 exact thn (hr pos pins s1 σ H1 _ I1 q1) fun us s2 ⟨xs, H2, I2, r2, q2⟩ => ⟨x :: xs, H2, I2, .cons r1 r2, q2⟩
def tTup (t : TA) : TE := fun σ H Q => t σ H fun xs H1 => xs.length ≤ sizeLine ∧ ∀ p, H1 p = none → Q (.ref p) (upd H1 p (.tup xs))
def tLst (t : TA) : TE := fun σ H Q => t σ H fun xs H1 => xs.length ≤ sizeLine ∧ ∀ p, H1 p = none → Q (.ref p) (upd H1 p (.lst xs))
theorem pe_tup {x1} (h : PA X es t) : PE X (.Tuple es x1 pos) (tTup t) := by
 intro pins s σ H Q I hq
 refine wpAny_Tuple_spliced (thn (h pos pins s σ H _ I hq) fun us s1 ⟨xs, H1, I1, r, z, q⟩ => ⟨by rw [← r.length]; exact z, ?_⟩)
 have hf : H1 s1.heap.objs.size = none := I1.hok.fresh (Nat.le_refl _)
 refine ⟨.ref s1.heap.objs.size, upd H1 s1.heap.objs.size (.tup xs), I1.laid (t' := s1.toks) (fun b u e => Heap.get?_push_of_some _ e) (Nat.le_refl _) ?_, rfl, q _ hf⟩
 exact ⟨z, us, r, ⟨_, Heap.get?_push_size _ rfl, rfl, _, rfl⟩⟩
theorem pe_lst (h : PA X es t) : PE X (.List es pos) (tLst t) := by
 intro pins s σ H Q I hq
 refine wpAny_List_spliced (thn (h pos pins s σ H _ I hq) fun us s1 ⟨xs, H1, I1, r, z, q⟩ => ⟨by rw [← r.length]; exact z, ?_⟩)
 have hf : H1 s1.heap.objs.size = none := I1.hok.fresh (Nat.le_refl _)
 refine ⟨.ref s1.heap.objs.size, upd H1 s1.heap.objs.size (.lst xs), I1.laid (t' := s1.toks) (fun b u e => Heap.get?_push_of_some _ e) (Nat.le_refl _) ?_, rfl, q _ hf⟩
 exact ⟨z, us, 0, r, Heap.get?_push_size _ rfl⟩
end
abbrev Sp := List V → Hp → VK → XK → Prop
abbrev CXT := List Env → Hp → Shared → XK → Value → Shared → Prop
structure Env0 (P : Program) (w : World) (K : PySem.W.Frag) (mg : Str → Option Value) (base : Heap) (A : Around) (outer : List Env) (s : Shared) (H : Hp) : Prop where
 frames : A.frames = some outer
 mod : Mod K mg base
 bs : ∀ b o, base.get? b = some o → s.heap.get? b = some o ∧ H b = none
 bsz : base.objs.size ≤ s.heap.objs.size
 funs : s.heap.FunFrames base outer
 frf : ∀ b ∈ frs outer, H b = none
 hok : HOk P w H s.heap
 bare : AllBare s.gens
def CE (outer : List Env) (P : Program) (w : World) (H : Hp) (s : Shared) (Q : VK) (u : Value) (s' : Shared) : Prop :=
 ∃ v H', s'.os = s.os ∧ AllBare s'.gens ∧ Un (frs outer) [] H H' s.heap s'.heap ∧ HOk P w H' s'.heap ∧ RelV v u ∧ Q v H'
def CR (CX : CXT) (outer : List Env) (P : Program) (w : World) (H : Hp) (s : Shared) (Q : VK) (E : XK) (r : Result) (s' : Shared) : Prop :=
 match r with
 | .ok (.ret u) => CE outer P w H s Q u s'
 | .ok _ => False
 | .error e => CX outer H s E e s'
structure FnOk (P : Program) (w : World) (K : PySem.W.Frag) (mg : Str → Option Value) (base : Heap) (CX : CXT) (k : Nat) (f : Addr) (fd : FuncData) (ps : List Str) (sp : Sp) : Prop where
 len : ∀ vs H Q E, sp vs H Q E → vs.length = ps.length
 run : ∀ (A : Around) (outer : List Env) (s : Shared) (H : Hp) (args : Args) (us : List Value) (vs : List V) (Q : VK) (E : XK), Room k A → Env0 P w K mg base A outer s H → BindsTo s fd args (ps.zip us) → Vals vs us → sp vs H Q E →
   codeAny (model P w) A (.call (.ref f) args) (CR CX outer P w H s Q E) s
theorem FnOk.mono {P : Program} {w : World} {K : PySem.W.Frag} {mg : Str → Option Value} {base : Heap} {CX : CXT} {j k : Nat} {f : Addr} {fd : FuncData} {ps : List Str} {sp : Sp} (F : FnOk P w K mg base CX j f fd ps sp) (h : j ≤ k) :
   FnOk P w K mg base CX k f fd ps sp := ⟨F.len, fun A outer s H args us vs Q E hr => F.run A outer s H args us vs Q E (hr.mono h)⟩
section
variable {X : Cx} {pins : List (Addr × Obj)} {σ : St} {H : Hp} {s s' : Shared}
theorem Inv.env0 (I : Inv X pins σ H s) : Env0 X.prog X.w X.K X.mg X.base X.A X.stack s H :=
 ⟨I.ok.frames, I.ok.mod, I.bs, Nat.le_trans I.ok.bsz I.sz, I.stack, I.stkFree, I.hok, I.bare⟩
theorem Inv.after {Q : VK} {u : Value} (I : Inv X pins σ H s) (h : CE X.stack X.prog X.w H s Q u s') : EP X pins σ Q u s' := by
 obtain ⟨v, H', os, bare, un, hok, r, q⟩ := h
 obtain ⟨hh, g, d, t, os'⟩ := s'
 obtain rfl : os' = s.os := os
 exact ⟨v, H', I.call (h' := hh) (g' := g) (d' := d) (t' := t) (ch := []) un hok bare (fun b z => absurd z (by simp)), r, q⟩
end
def tCall (sp : Sp) (dvs : List V) (E : XK) (t : TA) : TE := fun σ H Q => t σ H fun vs H1 => sp (vs ++ dvs) H1 Q E
def Binds (K : PySem.W.Frag) (fd : FuncData) (ps : List Str) (ds : List Value) : Prop :=
 ∀ (s : Shared) (us : List Value), K.In s.heap → (us ++ ds).length = ps.length → BindsTo s fd ⟨us, []⟩ (ps.zip (us ++ ds))
theorem Binds.all {K : PySem.W.Frag} {fd : FuncData} {ps : List Str} (h : ∀ us : List Value, us.length = ps.length → bindArgs fd ⟨us, []⟩ = pure (ps.zip us)) : Binds K fd ps [] := fun s us _ hl => by
 rw [List.append_nil] at hl ⊢
 exact .of_eq (h us hl)
def Passes (CX : CXT) (X : Cx) (E : XK) : Prop := ∀ (pins : List (Addr × Obj)) (σ : St) (H : Hp) (s : Shared) (e : Value) (s' : Shared), Inv X pins σ H s → CX X.stack H s E e s' → X.xe e s'
section
variable {X : Cx} {CX : CXT} {k : Nat} {f C : Addr} {fd : FuncData} {ps : List Str} {sp : Sp} {dvs : List V} {ds : List Value} {E : XK} {x m : Str} {p pos apos : Pos} {e o : Expr} {es : List Expr} {ta : TE} {t : TA}
theorem run_fn {pins : List (Addr × Obj)} {σ : St} {H : Hp} {s : Shared} {Q : VK} {us : List Value} {vs : List V} (F : FnOk X.prog X.w X.K X.mg X.base CX k f fd ps sp) (hr : Room k X.A) (hb : Binds X.K fd ps ds) (hd : Vals dvs ds) (hx : Passes CX X E)
   (I : Inv X pins σ H s) (r : Vals vs us) (h : sp (vs ++ dvs) H Q E) : wpAny (model X.prog X.w) X.A (call (.ref f) us) (EP X pins σ Q) X.xe s := by
 have r2 : Vals (vs ++ dvs) (us ++ ds) := r.append hd
 have hl : (us ++ ds).length = ps.length := by rw [← r2.length]; exact F.len _ _ _ _ h
 refine wpAny_call (codeAny_mono (F.run X.A X.stack s H ⟨us, []⟩ (us ++ ds) (vs ++ dvs) Q E hr I.env0 (hb s us I.kIn hl) r2 h) fun r s' hq => ?_)
 cases r with
 | error e => exact hx pins σ H s e s' I hq
 | ok fl =>
   cases fl with
   | ret u => exact I.after hq
   | next => exact False.elim hq
   | brk => exact False.elim hq
   | cont => exact False.elim hq
theorem pe_call (F : FnOk X.prog X.w X.K X.mg X.base CX k f fd ps sp) (hr : Room k X.A) (hg : Gl X x) (hm : X.mg x = some (.ref f)) (hk : PySem.W.keepIn X.K (.ref f) = true) (hb : Binds X.K fd ps ds) (hd : Vals dvs ds) (hx : Passes CX X E)
   (ha : PA X (e :: es) t) (hdb : (x == ("__debug__" : Str)) = false := by decide) (he : starEach (e :: es) X.env = (false, eval e X.env) :: starEach es X.env := by rfl) (hpl : (backTo pos (starEach es X.env)).any (·.1) = false := by rfl) :
   PE X (.Call (.Name x p) (e :: es) [] pos) (tCall sp dvs E t) := by
 intro pins s σ H Q I h
 refine wpAny_Call_Name_kw (ld_glob I hg hm ?_ hdb)
 refine PySem.W.callWith_K (h₀ := X.base) I.ok.mod.kin hk (thn (ha pos pins s σ H _ I h) fun us s1 ⟨vs, H1, I1, r, q⟩ => ⟨I1.kIn, ?_⟩) he hpl
 exact run_fn F hr hb hd hx I1 r q
end
structure FnScope (N P : List Str) (sc : Scope) : Prop where
 kind : sc.kind = .function
 co : sc.isCoroutine = false
 gen : sc.isGenerator = false
 nd : N.Nodup
 pre : N.take P.length = P
 par : ∀ x ∈ P, sc.names.lookup x = some .local ∨ sc.names.lookup x = some .cell
 nofree : ∀ y ∈ sc.names, y.2 ≠ .free
theorem bindL_out {kindOf : Str → Option NameKind} {x : Str} : ∀ {binds : List (Str × Value)} {m : Str → Option Value}, (∀ v, (x, v) ∉ binds) → bindL kindOf binds m x = m x
 | [], _, _ => rfl
 | (n, v) :: r, m, h => by
   unfold bindL
   rw [bindL_out fun w hw => h w (List.mem_cons_of_mem _ hw)]
   split
   · have : x ≠ n := by rintro rfl; exact h v List.mem_cons_self
     simp [this]
   · rfl
theorem bindC_out {kindOf : Str → Option NameKind} {x : Str} : ∀ {binds : List (Str × Value)} {m : Str → Option Value}, (∀ v, (x, v) ∉ binds) → bindC kindOf binds m x = m x
 | [], _, _ => rfl
 | (n, v) :: r, m, h => by
   unfold bindC
   rw [bindC_out fun w hw => h w (List.mem_cons_of_mem _ hw)]
   split
   · rfl
   · have : x ≠ n := by rintro rfl; exact h v List.mem_cons_self
     simp [this]
theorem bindL_get {kindOf : Str → Option NameKind} {x : Str} {v : Value} : ∀ {P : List Str} {vs : List Value} {i : Nat} {m : Str → Option Value}, P.Nodup → P[i]? = some x → vs[i]? = some v → kindOf x = some .local →
   bindL kindOf (P.zip vs) m x = some v
 | [], _, _, _, _, h, _, _ => by simp at h
 | _ :: _, [], _, _, _, _, h, _ => by simp at h
 | p :: P, w :: vs, 0, m, nd, h1, h2, hk => by
   simp at h1 h2; subst h1; subst h2
   show bindL kindOf ((p, w) :: P.zip vs) m p = _
   unfold bindL
   rw [bindL_out fun v hv => (List.nodup_cons.mp nd).1 (List.of_mem_zip hv).1, if_pos hk]
   simp
 | p :: P, w :: vs, i + 1, m, nd, h1, h2, hk => by
   show bindL kindOf ((p, w) :: P.zip vs) m x = _
   unfold bindL
   exact bindL_get (i := i) (List.nodup_cons.mp nd).2 (by simpa using h1) (by simpa using h2) hk
theorem bindC_get {kindOf : Str → Option NameKind} {x : Str} {v : Value} : ∀ {P : List Str} {vs : List Value} {i : Nat} {m : Str → Option Value}, P.Nodup → P[i]? = some x → vs[i]? = some v → kindOf x ≠ some .local →
   bindC kindOf (P.zip vs) m x = some v
 | [], _, _, _, _, h, _, _ => by simp at h
 | _ :: _, [], _, _, _, _, h, _ => by simp at h
 | p :: P, w :: vs, 0, m, nd, h1, h2, hk => by
   simp at h1 h2; subst h1; subst h2
   show bindC kindOf ((p, w) :: P.zip vs) m p = _
   unfold bindC
   rw [bindC_out fun v hv => (List.nodup_cons.mp nd).1 (List.of_mem_zip hv).1, if_neg hk]
   simp
 | p :: P, w :: vs, i + 1, m, nd, h1, h2, hk => by
   show bindC kindOf ((p, w) :: P.zip vs) m x = _
   unfold bindC
   exact bindC_get (i := i) (List.nodup_cons.mp nd).2 (by simpa using h1) (by simpa using h2) hk
def start (N : List Str) (vs : List V) : St := vs.map some ++ List.replicate (N.length - vs.length) none
def cxOf (CX : CXT) (P : Program) (w : World) (K : PySem.W.Frag) (mg : Str → Option Value) (base : Heap) (N : List Str) (qual : Str) (scope : Scope) (f : Addr) (cd : Value) (A : Around) (outer : List Env) (s : Shared) (H : Hp) (E : XK) : Cx where
 prog := P
 w := w
 K := K
 mg := mg
 base := base
 A := A.deeper (envOfC qual scope s.heap.objs.size f cd)
 N := N
 s₀ := s
 H₀ := H
 env := envOfC qual scope s.heap.objs.size f cd
 outer := outer
 stack := envOfC qual scope s.heap.objs.size f cd :: outer
 ex := []
 calm := true
 fn := fun _ => true
 pn := []
 xe := fun e s' => wpAny (model P w) (A.deeper (envOfC qual scope s.heap.objs.size f cd)) (leaving (envOfC qual scope s.heap.objs.size f cd) e) (fun _ s'' => CX outer H s E e s'') (fun e' s'' => CX outer H s E e' s'') s'
theorem cell_has {sc : Scope} {n : Nat} {x : Str} (h : sc.names.lookup x = some .cell) : ∃ c, (cellsFrom n sc.names []).lookup x = some c := by
 have q := PySem.W.cellsFrom_some sc.names n [] (.inl h)
 exact Option.isSome_iff_exists.mp q
theorem inv_start {CX : CXT} {P : Program} {w : World} {K : PySem.W.Frag} {mg : Str → Option Value} {base : Heap} {N ps : List Str} {qual : Str} {scope : Scope} {f : Addr} {cd : Value} {A : Around} {outer : List Env} {s s1 : Shared} {H : Hp} {E : XK} {us : List Value} {vs : List V}
   (S : FnScope N ps scope) (hd : A.handled = none) (e0 : Env0 P w K mg base A outer s H) (hl : vs.length = ps.length) (r : Vals vs us)
   (x : InCallC s s.heap.objs.size (bindL (envOfC qual scope s.heap.objs.size f cd).kindOf (ps.zip us) fun _ => none) (cellsFrom (s.heap.objs.size + 1) scope.names []) (bindC (envOfC qual scope s.heap.objs.size f cd).kindOf (ps.zip us) fun _ => none) s1) :
   Inv (cxOf CX P w K mg base N qual scope f cd A outer s H E) [] (start N vs) H s1 := by
 have hpl : ps.length ≤ N.length := by have := congrArg List.length S.pre; rw [List.length_take] at this; omega
 obtain ⟨h1, tk, rfl, hk⟩ := x.done
 have noA : ∀ b : Addr, b ∉ (cxOf CX P w K mg base N qual scope f cd A outer s H E).ex := fun b z => absurd (show b ∈ ([] : List Addr) from z) (by simp)
 refine ⟨⟨e0.mod, S.kind, rfl, rfl, Nat.le_refl _, fun y z c h1 h2 => ?_, fun y hy => ?_, fun y c _ h => ?_, fun _ => hd, Around.frames_deeper e0.frames, .inr ⟨rfl, rfl⟩, fun b z => absurd z (noA b), e0.bs, e0.bsz, fun b _ _ => noA b, fun b z => absurd z (noA b), e0.funs, e0.frf⟩,
   rfl, e0.bare, Un.kept hk, ⟨_, x.toInCall.ns, fun i y v h1 h2 h3 => ?_⟩, fun y c h => ⟨_, x.cell y c h⟩, e0.hok.fresh (Nat.le_refl _), fun y c h => ?_, fun p hp => absurd (show p ∈ ([] : List (Addr × Obj)) from hp) (by simp), e0.hok.kept hk, ?_⟩
 · exact name_of_addr x.apart (PySem.mem_of_lookup h1) (PySem.mem_of_lookup h2)
 · have hy : scope.names.lookup y = some .cell ∨ scope.names.lookup y = some .free := hy
   rcases hy with hy | hy
   · exact cell_has hy
   · exact absurd rfl (S.nofree _ (PySem.mem_of_lookup hy))
 · exact Nat.le_of_lt (x.above y c (PySem.mem_of_lookup h))
 · have hi : i < vs.length := by
     unfold start at h2
     by_cases hi : i < vs.length
     · exact hi
     · rw [List.getElem?_append_right (by simpa using hi)] at h2
       rw [List.getElem?_replicate] at h2
       split at h2 <;> cases h2
   have ha : vs[i]? = some v := by
     unfold start at h2
     rw [List.getElem?_append_left (by simpa using hi), List.getElem?_map] at h2
     cases e : vs[i]? with
     | none => rw [e] at h2; cases h2
     | some a => rw [e] at h2; cases h2; rfl
   obtain ⟨u, hu, rv⟩ := r.get ha
   have hp : ps[i]? = some y := by
     rw [← S.pre, List.getElem?_take_of_lt (by omega)]; exact h1
   have ndP : ps.Nodup := by rw [← S.pre]; exact S.nd.sublist (List.take_sublist _ _)
   refine ⟨u, rv, ?_⟩
   rcases S.par y (List.mem_of_getElem? hp) with k | k
   · exact .inl ⟨k, bindL_get ndP hp hu k⟩
   · obtain ⟨c, e⟩ := cell_has (n := s.heap.objs.size + 1) k
     refine .inr ⟨.inl k, c, e, ?_⟩
     have q := x.cell y c e
     rw [bindC_get ndP hp hu (by show scope.names.lookup y ≠ _; rw [k]; decide)] at q
     exact q
 · exact e0.hok.fresh (Nat.le_of_lt (x.above y c (PySem.mem_of_lookup h)))
 · unfold start
   show _ = N.length
   rw [List.length_append, List.length_map, List.length_replicate]
   omega
theorem fn_of {CX : CXT} {P : Program} {w : World} {K : PySem.W.Frag} {mg : Str → Option Value} {base : Heap} {k : Nat} {f : Addr} {name qual : Str} {params : Arguments} {body : List Stmt} {scope : Scope} {dV kV doc pm cdv ct oc : Value} {an od : Option Addr}
   {osl : Array (Option Value)} {N ps : List Str} {sp : Sp} (lk : K.lookup f = some ⟨oc, od, .func (PySem.W.fnOf name qual params body scope dV kV doc pm an cdv ct), osl⟩) (hcd : PySem.W.codeIn K cdv qual = true) (S : FnScope N ps scope)
   (len : ∀ vs H Q E, sp vs H Q E → vs.length = ps.length)
   (hbody : ∀ (A : Around) (outer : List Env) (s : Shared) (H : Hp) (vs : List V) (Q : VK) (E : XK), Room k (A.deeper (envOfC qual scope s.heap.objs.size f cdv)) → sp vs H Q E →
     ∃ t, PSs (cxOf CX P w K mg base N qual scope f cdv A outer s H E) body t ∧ t { nx := fun _ H' => Q .non H', rt := Q } (start N vs) H) :
   FnOk P w K mg base CX (k + 1) f (PySem.W.fnOf name qual params body scope dV kV doc pm an cdv ct) ps sp := by
 refine ⟨len, fun A outer s H args us vs Q E hr e0 hb r hsp => ?_⟩
 have hl := len _ _ _ _ hsp
 have KX : K.In s.heap := e0.mod.kin.keeps fun b o e => (e0.bs b o e).1
 have lim : s.heap.NoLimit := e0.mod.nolimit.keeps fun b o e => (e0.bs b o e).1
 have hkind : ∀ y ∈ ps.zip us, scope.names.lookup y.1 = some .local ∨ (scope.names.lookup y.1 = some .cell ∧ ((cellsFrom (s.heap.objs.size + 1) scope.names []).lookup y.1).isSome = true) := fun ⟨n, v⟩ hy => by
   rcases S.par n (List.of_mem_zip hy).1 with q | q
   · exact .inl q
   · exact .inr ⟨q, PySem.W.cellsFrom_some _ _ _ (.inl q)⟩
 refine codeAny_call_function hr.depth (KX _ _ lk) rfl S.co S.gen rfl (PySem.W.codeRec_of KX hcd) (hb _ _ _ _ ?_)
 refine wpAny_newFunctionEnv_cells S.kind hkind fun env he s1 x => ?_
 subst he
 refine ⟨lim.keeps x.toInCall.keep, codeAny_func ?_⟩
 obtain ⟨t, ht, hq⟩ := hbody A outer s H vs Q E (hr.deeper _) hsp
 have I : Inv (cxOf CX P w K mg base N qual scope f cdv A outer s H E) [] (start N vs) H s1 := inv_start S hr.hd e0 hl r x
 refine wpAny_mono (ht [] s1 (start N vs) H _ I hq) (fun fl s' hs => ?_) fun e s' hs => hs
 have fin : ∀ {σ' : St} {H' : Hp} {v : V} {u : Value}, Inv (cxOf CX P w K mg base N qual scope f cdv A outer s H E) [] σ' H' s' → RelV v u → Q v H' → CE outer P w H s Q u s' :=
   fun {σ' H' v u} J rv q => ⟨v, H', J.os, J.bare, J.base, J.hok, rv, q⟩
 cases fl with
 | ret u =>
   obtain ⟨v, σ', H', J, rv, q⟩ := hs
   exact fin J rv q
 | next =>
   obtain ⟨σ', H', J, q⟩ := hs
   exact fin (v := V.non) (u := Value.none) J rfl q
 | brk =>
   obtain ⟨_, _, _, q⟩ := hs
   exact False.elim q
 | cont =>
   obtain ⟨_, _, _, q⟩ := hs
   exact False.elim q
end L2
namespace L2
open PySem PySem.Spec PyProof.Rows
section
variable {X : Cx} {x : Str} {p pos : Pos} {e : Expr} {es : List Expr} {t : TA} {id T : String} {r : List V → Hp → VK → Prop}
def tCB (r : List V → Hp → VK → Prop) (t : TA) : TE := fun σ H Q => t σ H fun vs H1 => r vs H1 Q
theorem pe_callB (hc : CallR X (.builtin id) r) (hg : Gl X x) (hm : X.mg x = none) (hv : bootBuiltins x = some (.builtin id)) (ha : PA X (e :: es) t) (hn : x ≠ "__name__" := by decide) (hdb : (x == ("__debug__" : Str)) = false := by decide)
   (he : starEach (e :: es) X.env = (false, eval e X.env) :: starEach es X.env := by rfl) (hpl : (backTo pos (starEach es X.env)).any (·.1) = false := by rfl) : PE X (.Call (.Name x p) (e :: es) [] pos) (tCB r t) := by
 intro pins s σ H Q I h
 refine wpAny_Call_Name_kw (ld_blt I hg hm hv ?_ hn hdb)
 exact PyProof.Rows.callWith_builtin1 (thn (ha pos pins s σ H _ I h) fun us s1 ⟨vs, H1, I1, r1, q1⟩ => hc pins s1 σ H1 vs us Q I1 r1 q1) he hpl
theorem pe_callTy (hc : CallR X (.type T) r) (hg : Gl X x) (hm : X.mg x = none) (hv : bootBuiltins x = some (.type T)) (ha : PA X (e :: es) t) (hn : x ≠ "__name__" := by decide) (hdb : (x == ("__debug__" : Str)) = false := by decide)
   (he : starEach (e :: es) X.env = (false, eval e X.env) :: starEach es X.env := by rfl) (hpl : (backTo pos (starEach es X.env)).any (·.1) = false := by rfl) : PE X (.Call (.Name x p) (e :: es) [] pos) (tCB r t) := by
 intro pins s σ H Q I h
 refine wpAny_Call_Name_kw (ld_blt I hg hm hv ?_ hn hdb)
 exact PyProof.Rows.callWith_type1 (thn (ha pos pins s σ H _ I h) fun us s1 ⟨vs, H1, I1, r1, q1⟩ => hc pins s1 σ H1 vs us Q I1 r1 q1) he hpl
end
end L2
namespace HT
open PySem PyProof.Rows
section
variable {prog : Program} {w : World} {A : Around} {E : Value → Shared → Prop} {s : Shared}
theorem cat_tup {t b : Addr} {vs ws : List Value} {Q : Value → Shared → Prop} (ht : IsTup s.heap t vs.toArray) (hb : IsTup s.heap b ws.toArray) (hv : vs ≠ [])
   (h1 : ws = [] → Q (.ref t) s) (h2 : ws ≠ [] → Q (.ref s.heap.objs.size) { s with heap := s.heap.push { cls := .type "tuple", data := .seq (vs ++ ws).toArray } })
   (hsz : vs.length + ws.length ≤ sizeLine) : wpAny (model prog w) A (binaryOp .Add (.ref t) (.ref b)) Q E s := by
 obtain ⟨⟨cls, dd, data, sl⟩, ho, hc, n, hd⟩ := id ht
 obtain ⟨⟨cls2, dd2, data2, sl2⟩, ho2, hc2, n2, hd2⟩ := id hb
 simp only at hc hd hc2 hd2
 subst hc hd hc2 hd2
 have e : vs.toArray ++ ws.toArray = (vs ++ ws).toArray := by simp
 by_cases hw : ws = []
 · exact concat_meets ⟨_, ho, rfl⟩ ⟨_, ho2, rfl⟩ noFill_tuple_add seq_tuple_add PySem.F.slot_tuple_add PySem.F.entry_tuple_add (PySem.F.args_tuple_add_2 _ _)
     (tuple_addW1 t b vs.toArray ws.toArray n n2 dd dd2 sl sl2 (by simpa using hv) (by simp [hw])) ⟨ho, ho2, h1 hw⟩
 · refine concat_meets ⟨_, ho, rfl⟩ ⟨_, ho2, rfl⟩ noFill_tuple_add seq_tuple_add PySem.F.slot_tuple_add PySem.F.entry_tuple_add (PySem.F.args_tuple_add_2 _ _)
     (tuple_addW2 t b vs.toArray ws.toArray n n2 dd dd2 sl sl2 (by simpa using hv) (by simpa using hw) (by rw [List.size_toArray, List.size_toArray]; exact hsz)) ⟨ho, ho2, ?_⟩
   rw [e]
   exact h2 hw
def sIx (n d : Nat) : Option Int → Nat
 | none => d
 | some v => if v < 0 then (v + (n : Int)).toNat else min v.toNat n
end
end HT
namespace L2
open PySem PySem.Spec PyProof.Rows
abbrev TO := St → Hp → (Option Int → Hp → Prop) → Prop
def PO (X : Cx) (e : Option Expr) (t : TO) : Prop :=
 ∀ (pins : List (Addr × Obj)) (s : Shared) (σ : St) (H : Hp) (Q : Option Int → Hp → Prop), Inv X pins σ H s → t σ H Q →
   wpAny (model X.prog X.w) X.A (evalPart e X.env) (fun u s' => ∃ o H', Inv X pins σ H' s' ∧ IsPart u o ∧ Q o H') X.xe s
def tPart (t : TE) : TO := fun σ H Q => t σ H fun x H1 => ∃ i, x = .int i ∧ Q (some i) H1
section
variable {X : Cx} {e : Expr} {te : TE} {lo hi : Option Expr} {tl th : TO} {pos p2 : Pos}
theorem po_some (h : PE X e te) : PO X (some e) (tPart te) := by
 intro pins s σ H Q I hw
 rw [evalPart_some]
 refine thn (h pins s σ H _ I hw) fun u s1 ⟨x, H1, I1, r1, q1⟩ => ?_
 obtain ⟨i, rfl, q⟩ := q1
 obtain ⟨t, rfl⟩ := r1
 exact ⟨some i, H1, I1, .int i t, q⟩
def SlR (X : Cx) (r : V → Option Int → Option Int → Hp → VK → Prop) : Prop :=
 ∀ (pins : List (Addr × Obj)) (s : Shared) (σ : St) (H : Hp) (x : V) (v vl vu : Value) (lo hi : Option Int) (sl : Addr) (Q : VK), Inv X pins σ H s → RelV x v → s.heap.IsSliceOf sl vl vu .none → IsPart vl lo → IsPart vu hi → r x lo hi H Q →
   ∃ T id, typeLookup (.type T) "__getitem__" = pure (some (.builtin id)) ∧ s.TypeIs v T ∧ wpAny (model X.prog X.w) X.A (getItem v (.ref sl)) (EP X pins σ Q) X.xe s
def tSl (r : V → Option Int → Option Int → Hp → VK → Prop) (te : TE) (tl th : TO) : TE := fun σ H Q => te σ H fun x H1 => tl σ H1 fun l H2 => th σ H2 fun u H3 => r x l u H3 Q
theorem pe_slice {r : V → Option Int → Option Int → Hp → VK → Prop} (hr : SlR X r) (he : PE X e te) (hl : PO X lo tl) (hu : PO X hi th) : PE X (.Subscript e (.Slice lo hi none p2) pos) (tSl r te tl th) := by
 intro pins s σ H Q I h
 refine Subscript_ (thn (he pins s σ H _ I h) fun v s1 ⟨x, H1, I1, r1, q1⟩ => ?_)
 refine wpAny_Slice (thn (hl pins s1 σ H1 _ I1 q1) fun vl s2 ⟨l, H2, I2, pl, q2⟩ => thn (hu pins s2 σ H2 _ I2 q2) fun vu s3 ⟨u, H3, I3, pu, q3⟩ => ?_)
 rw [evalPart_none]
 refine wpAny_pure ?_
 have I4 : Inv X pins σ H3 { s3 with heap := s3.heap.push { cls := .type "slice", data := .fields #[vl, vu, .none] } } := I3.kept (t' := s3.toks) fun b ob q => Heap.get?_push_of_some _ q
 obtain ⟨T, id, hT, ht, hg⟩ := hr pins { s3 with heap := s3.heap.push { cls := .type "slice", data := .fields #[vl, vu, .none] } } σ H3 x v vl vu l u s3.heap.objs.size Q I4 r1 (Heap.IsSliceOf.new ..) pl pu q3
 show wpAny (model X.prog X.w) X.A (subscriptTail e (.Slice lo hi none p2) v (.ref s3.heap.objs.size)) (EP X pins σ Q) X.xe { s3 with heap := s3.heap.push { cls := .type "slice", data := .fields #[vl, vu, .none] } }
 exact tail_any (ops := [.ref s3.heap.objs.size, v]) ht hT hg (by with_unfolding_all rfl)
def cutV (xs : List V) (lo hi : Option Int) : List V := (xs.drop (HT.sIx xs.length 0 lo)).take (HT.sIx xs.length xs.length hi - HT.sIx xs.length 0 lo)
theorem cutV_length (xs : List V) (lo hi : Option Int) : (cutV xs lo hi).length ≤ xs.length := by
 unfold cutV
 rw [List.length_take, List.length_drop]
 omega
def rCatT (K : PySem.W.Frag) : R2 := fun x y H Q => ∃ a b xs ys, x = .ref a ∧ y = .ref b ∧ SqT K H a xs ∧ SqT K H b ys ∧ xs ≠ [] ∧ xs.length + ys.length ≤ sizeLine ∧
 (ys = [] → Q (.ref a) H) ∧ (ys ≠ [] → ∀ p, H p = none → Q (.ref p) (upd H p (.tup (xs ++ ys))))
theorem Vals.nil_iff {xs : List V} {us : List Value} (r : Vals xs us) : us = [] ↔ xs = [] := by
 cases r with
 | nil => simp
 | cons _ _ => simp
theorem op_catT : OpR X (binaryOp .Add) (rCatT X.K) := by
 intro pins s σ H x y v u Q I rx ry h
 obtain ⟨a, b, xs, ys, rfl, rfl, ha, hb, hx, hz, q1, q2⟩ := h
 cases rx
 cases ry
 obtain ⟨its, r1, p1, _⟩ := I.tuple ha
 obtain ⟨its2, r2, p2, _⟩ := I.tuple hb
 refine HT.cat_tup p1 p2 (fun z => hx (r1.nil_iff.mp z)) (fun z => ⟨.ref a, H, I, rfl, q1 (r2.nil_iff.mp z)⟩) (fun z => ?_) (by rw [← r1.length, ← r2.length]; exact hz)
 refine ⟨.ref s.heap.objs.size, _, I.laid (t' := s.toks) (o := .tup (xs ++ ys)) (fun b ob q => Heap.get?_push_of_some _ q) (Nat.le_refl _) ?_, rfl, q2 (fun w => z (r2.nil_iff.mpr w)) _ (I.hok.fresh (Nat.le_refl _))⟩
 exact ⟨by rw [List.length_append]; exact hz, _, r1.append r2, IsTup.new _ _⟩
end
end L2
namespace L2
open PySem PySem.Spec PyProof.Rows
def ixN (n : Nat) (i : Int) : Option Nat := if 0 ≤ i then (if i < n then some i.toNat else none) else if -(n : Int) ≤ i then some (i + n).toNat else none
def atI {α : Type} (xs : List α) (i : Int) : Option α := (ixN xs.length i).bind fun j => xs[j]?
theorem ixN_seq {n : Nat} {i : Int} {j : Nat} (h : ixN n i = some j) : seqIndex? i n = some j ∧ j < n ∧ -(n : Int) ≤ i ∧ i < n := by
 unfold ixN at h
 by_cases h0 : 0 ≤ i
 · rw [if_pos h0] at h
   by_cases h1 : i < n
   · rw [if_pos h1] at h
     have e : i.toNat = j := Option.some.inj h
     exact ⟨by rw [seqIndex_of h0 h1, e], by omega, by omega, h1⟩
   · rw [if_neg h1] at h; cases h
 · rw [if_neg h0] at h
   by_cases h1 : -(n : Int) ≤ i
   · rw [if_pos h1] at h
     have e : (i + n).toNat = j := Option.some.inj h
     exact ⟨by rw [seqIndex_neg (by omega) h1, e], by omega, h1, by omega⟩
   · rw [if_neg h1] at h; cases h
theorem atI_get {α : Type} {xs : List α} {i : Int} {v : α} (h : atI xs i = some v) : ∃ j, seqIndex? i xs.length = some j ∧ xs[j]? = some v ∧ j < xs.length ∧ -(xs.length : Int) ≤ i ∧ i < xs.length := by
 unfold atI at h
 cases e : ixN xs.length i with
 | none => rw [e] at h; cases h
 | some j =>
   rw [e] at h
   obtain ⟨h1, h2, h3, h4⟩ := ixN_seq e
   exact ⟨j, h1, h, h2, h3, h4⟩
theorem atI_nat {α : Type} {xs : List α} {j : Nat} {v : α} (h : xs[j]? = some v) : atI xs (j : Int) = some v := by
 have hj : j < xs.length := (List.getElem?_eq_some_iff.mp h).1
 have e : ixN xs.length (j : Int) = some j := by
   unfold ixN
   rw [if_pos (by omega), if_pos (by omega)]; simp
 unfold atI; rw [e]; exact h
def PlainIx (b : Expr) : Prop := ∀ o i, subscripted b false o i = operate [o, i] (getItem o i)
def IxR (X : Cx) (r : R2) : Prop :=
 ∀ (value slice : Expr) (pins : List (Addr × Obj)) (s : Shared) (σ : St) (H : Hp) (x y : V) (v u : Value) (Q : VK), Inv X pins σ H s → RelV x v → RelV y u → r x y H Q →
   subscripted slice false v u = operate [v, u] (getItem v u) → wpAny (model X.prog X.w) X.A (subscriptTail value slice v u) (EP X pins σ Q) X.xe s
def MtR (X : Cx) (id : String) (r : V → List V → Hp → VK → Prop) : Prop :=
 ∀ (pins : List (Addr × Obj)) (s : Shared) (σ : St) (H : Hp) (x : V) (xs : List V) (v : Value) (us : List Value) (Q : VK), Inv X pins σ H s → RelV x v → Vals xs us → r x xs H Q →
   wpAny (model X.prog X.w) X.A (call (.builtin id) (v :: us)) (EP X pins σ Q) X.xe s
section
variable {X : Cx} {a b : Expr} {ta tb : TE} {pos : Pos}
theorem IxR.or {r r' : R2} (h : IxR X r) (h' : IxR X r') : IxR X (fun x y H Q => r x y H Q ∨ r' x y H Q) := by
 intro value slice pins s σ H x y v u Q I rx ry q hs
 rcases q with q | q
 · exact h value slice pins s σ H x y v u Q I rx ry q hs
 · exact h' value slice pins s σ H x y v u Q I rx ry q hs
theorem pe_ix {r : R2} (hr : IxR X r) (ha : PE X a ta) (hb : PE X b tb) (hs : PlainIx b) : PE X (.Subscript a b pos) (tOp r ta tb) := by
 intro pins s σ H Q I h
 exact Subscript_ (binT ha hb I h fun v u s2 x y H2 I2 rx ry q => hr a b pins s2 σ H2 x y v u Q I2 rx ry q (hs _ _))
def rIxL (K : PySem.W.Frag) : R2 := fun x y H Q => ∃ p xs i v, x = .ref p ∧ y = .int i ∧ SqL K H p xs ∧ atI xs i = some v ∧ Q v H
def rIxT (K : PySem.W.Frag) : R2 := fun x y H Q => ∃ p xs i v, x = .ref p ∧ y = .int i ∧ SqT K H p xs ∧ atI xs i = some v ∧ Q v H
def rIxS : R2 := fun x y H Q => ∃ z i c, x = .str z ∧ y = .int i ∧ z.length ≤ sizeLine ∧ atI z.cps.toList i = some c ∧ Q (.str ⟨#[c]⟩) H
theorem ix_list : IxR X (rIxL X.K) := by
 intro value slice pins s σ H x y v u Q I rx ry h hs
 obtain ⟨p, xs, i, z, rfl, rfl, hq, he, q⟩ := h
 cases rx
 obtain ⟨t, rfl⟩ := ry
 obtain ⟨its, r, pl, hz⟩ := I.list hq
 obtain ⟨j, h1, h2, h3, h4, h5⟩ := atI_get he
 obtain ⟨w, ew, rw'⟩ := r.get h2
 have hl := r.length
 have hn := line63
 have fin : EP X pins σ Q w s := ⟨z, H, I, rw', q⟩
 by_cases h0 : 0 ≤ i
 · have hj : i.toNat = j := by
     rw [seqIndex_of h0 h5] at h1
     exact Option.some.inj h1
   exact item_listR pl.isList h0 (by omega) (by rw [hj]; simpa using ew) fin hs
 · have hj : (i + (its.toArray.size : Int)).toNat = j := by
     rw [seqIndex_neg (by omega) h4] at h1
     rw [List.size_toArray, ← hl]
     exact Option.some.inj h1
   exact subscriptTail_builtinR (x := w) pl.isList.typeIs slot_list_getitem.lookup
     (wpAny_getItem_list_neg (Q := fun r s' => r = w ∧ EP X pins σ Q r s') pl.isList (by omega) (by rw [List.size_toArray] <;> omega) (by omega) (by rw [hj]; simpa using ew) ⟨rfl, fin⟩) hs
theorem ix_tup : IxR X (rIxT X.K) := by
 intro value slice pins s σ H x y v u Q I rx ry h hs
 obtain ⟨p, xs, i, z, rfl, rfl, hq, he, q⟩ := h
 cases rx
 obtain ⟨t, rfl⟩ := ry
 obtain ⟨its, r, pl, hz⟩ := I.tuple hq
 obtain ⟨j, h1, h2, h3, h4, h5⟩ := atI_get he
 obtain ⟨w, ew, rw'⟩ := r.get h2
 have hl := r.length
 have hn := line63
 have fin : EP X pins σ Q w s := ⟨z, H, I, rw', q⟩
 exact subscriptTail_builtinR (x := w) pl.typeIs slot_tuple_getitem.lookup
   (getItem_tuple (j := j) (Q := fun r s' => r = w ∧ EP X pins σ Q r s') pl (by omega) (by omega) (by rw [List.size_toArray, ← hl]; exact h1) (by simpa using ew) ⟨rfl, fin⟩) hs
theorem ix_str : IxR X rIxS := by
 intro value slice pins s σ H x y v u Q I rx ry h hs
 obtain ⟨z, i, c, rfl, rfl, hz, he, q⟩ := h
 obtain ⟨t, rfl⟩ := rx
 obtain ⟨t', rfl⟩ := ry
 obtain ⟨j, h1, h2, h3, h4, h5⟩ := atI_get he
 have hl : z.cps.toList.length = z.length := by simp [Str.length]
 rw [hl] at h1 h4 h5
 have hn := line63
 exact tail_any (typeIs_str s z t) slot_str_getitem.lookup (getItem_str (c := c) (by
   have e1 : decide (i < -(2 ^ 63 : Int)) = false := decide_eq_false (by omega)
   have e2 : decide (i ≥ 2 ^ 63) = false := decide_eq_false (by omega)
   rw [e1, e2, Bool.or_false]) (by rw [h1]; simpa using h2) ⟨.str ⟨#[c]⟩, H, I.tok _, ⟨_, rfl⟩, q⟩) hs
def rIx (K : PySem.W.Frag) : R2 := fun x y H Q => rIxL K x y H Q ∨ rIxT K x y H Q ∨ rIxS x y H Q
theorem ix_seq : IxR X (rIx X.K) := ix_list.or (ix_tup.or ix_str)
theorem slice_bounds (lo hi : Option Int) (n : Nat) : (sliceBounds lo hi none n).1 = ((HT.sIx n 0 lo : Nat) : Int) ∧ (sliceBounds lo hi none n).2.1 = ((HT.sIx n n hi : Nat) : Int) ∧ (sliceBounds lo hi none n).2.2 = 1 := by
 refine ⟨?_, ?_, rfl⟩
 · cases lo with
   | none => simp [sliceBounds, HT.sIx]
   | some i =>
     simp only [sliceBounds, HT.sIx, Option.getD_none, show (1 : Int) > 0 by decide, if_true]
     by_cases h : i < 0
     · simp only [h, if_true] <;> omega
     · simp only [h, if_false] <;> omega
 · cases hi with
   | none => simp [sliceBounds, HT.sIx]
   | some i =>
     simp only [sliceBounds, HT.sIx, Option.getD_none, show (1 : Int) > 0 by decide, if_true]
     by_cases h : i < 0
     · simp only [h, if_true] <;> omega
     · simp only [h, if_false] <;> omega
theorem slicePick_cut (its : List Value) (lo hi : Option Int) : slicePick its.toArray lo hi none = ((its.drop (HT.sIx its.length 0 lo)).take (HT.sIx its.length its.length hi - HT.sIx its.length 0 lo)).toArray := by
 obtain ⟨h1, h2, h3⟩ := slice_bounds lo hi its.toArray.size
 unfold slicePick
 rw [h1, h2, h3]
 simp only [sliceRange_one, pick_run, List.size_toArray] <;> rfl
def rSlL (K : PySem.W.Frag) : V → Option Int → Option Int → Hp → VK → Prop := fun x lo hi H Q => ∃ a xs, x = .ref a ∧ SqL K H a xs ∧ ∀ p, H p = none → Q (.ref p) (upd H p (.lst (cutV xs lo hi)))
theorem sl_list : SlR X (rSlL X.K) := by
 intro pins s σ H x v vl vu lo hi sl Q I rx hs pl pu h
 obtain ⟨a, xs, rfl, hx, q⟩ := h
 cases rx
 obtain ⟨its, r, ht, hz⟩ := I.list hx
 have hlen := r.length
 refine ⟨"list", _, slot_list_getitem.lookup, ht.isList.typeIs, ?_⟩
 refine wpAny_getItem_list_slice ht.isList hs pl pu .none (by simp) ?_ (by rw [List.size_toArray] <;> omega)
 rw [slicePick_cut, ← hlen]
 refine ⟨.ref s.heap.objs.size, _, I.laid (t' := s.toks) (o := .lst (cutV xs lo hi)) (fun b ob q => Heap.get?_push_of_some _ q) (Nat.le_refl _) ?_, rfl, q _ (I.hok.fresh (Nat.le_refl _))⟩
 exact ⟨Nat.le_trans (cutV_length xs lo hi) hz, _, 0, (r.drop (HT.sIx xs.length 0 lo)).take (HT.sIx xs.length xs.length hi - HT.sIx xs.length 0 lo), Heap.get?_push_size _ rfl⟩
theorem call_tuple_of : CallR X (.type "tuple") (fun xs H Q => ∃ p ys, xs = [.ref p] ∧ ((SqL X.K H p ys ∧ ∀ l, H l = none → Q (.ref l) (upd H l (.tup ys))) ∨ (SqT X.K H p ys ∧ Q (.ref p) H))) := by
 intro pins s σ H xs us Q I r h
 obtain ⟨p, ys, rfl, h⟩ := h
 obtain ⟨u, rfl, rx⟩ := vals1 r
 cases rx
 rcases h with ⟨hq, q⟩ | ⟨hq, q⟩
 · obtain ⟨its, r', pl, hz⟩ := I.list hq
   have hlen := r'.length
   refine call_tuple_list pl.isList (fun h' kp => ?_) (by simp only [List.size_toArray] <;> omega)
   have I1 : Inv X pins σ H { s with heap := h' } := I.kept (t' := s.toks) kp
   have I2 : Inv X pins σ (upd H h'.objs.size (.tup ys)) { s with heap := h'.push { cls := .type "tuple", data := .seq its.toArray } } :=
     I1.laid (t' := s.toks) (fun b o e => Heap.get?_push_of_some _ e) (Nat.le_refl _) (show ObjOk X.prog X.w _ _ _ (.tup ys) from ⟨hz, its, r', IsTup.new _ _⟩)
   exact ⟨.ref h'.objs.size, _, I2, rfl, q _ (I1.hok.fresh (Nat.le_refl _))⟩
 · obtain ⟨its, r', pl, hz⟩ := I.tuple hq
   exact call_tuple_same pl ⟨.ref p, H, I, rfl, q⟩
def tyV (K : PySem.W.Frag) (T : String) (x : V) (H : Hp) : Prop := match x with
 | .str _ => T = "str"
 | .int _ => T = "int"
 | .ref p => (T = "list" ∧ ∃ xs, SqL K H p xs) ∨ (T = "tuple" ∧ ∃ o, K.lookup p = some o ∧ o.cls = .type "tuple" ∧ o.dict = none) ∨
     (T = "dict" ∧ ((∃ kvs, H p = some (.dK kvs)) ∨ ∃ kvs, H p = some (.dT kvs))) ∨ (T = "set" ∧ ∃ S n, H p = some (.set S n))
 | _ => False
theorem tyV_is {pins : List (Addr × Obj)} {σ : St} {H : Hp} {s : Shared} {T : String} {x : V} {v : Value} (I : Inv X pins σ H s) (r : RelV x v) (ty : tyV X.K T x H) :
   s.TypeIs v T ∧ ∀ a, v = .ref a → ∃ ob, s.heap.get? a = some ob ∧ ob.dict = none := by
 cases x with
 | str z =>
   obtain ⟨t, rfl⟩ := r
   cases (show T = "str" from ty)
   exact ⟨typeIs_str s z t, fun _ e => nomatch e⟩
 | int i =>
   obtain ⟨t, rfl⟩ := r
   cases (show T = "int" from ty)
   exact ⟨typeIs_int s i t, fun _ e => nomatch e⟩
 | ref p =>
   cases r
   rcases ty with ⟨rfl, xs, hq⟩ | ⟨rfl, o, hk, hc, hd⟩ | ⟨rfl, hk⟩ | ⟨rfl, S, n, hk⟩
   · obtain ⟨its, _, pl, _⟩ := I.list hq
     refine ⟨pl.isList.typeIs, fun a e => ?_⟩
     cases e
     obtain ⟨o, n, e, c, hd, _⟩ := pl
     exact ⟨o, e, hd⟩
   · refine ⟨⟨o, I.kIn p o hk, hc⟩, fun a e => ?_⟩
     cases e
     exact ⟨o, I.kIn _ o hk, hd⟩
   · have z : ∃ o, s.heap.get? p = some o ∧ o.ExactDict := by
       rcases hk with ⟨kvs, hk⟩ | ⟨kvs, hk⟩
       · obtain ⟨_, _, _, _, o, _, _, e, ex, _⟩ := I.hok p _ hk
         exact ⟨o, e, ex⟩
       · obtain ⟨_, _, _, _, o, _, _, e, ex, _⟩ := I.hok p _ hk
         exact ⟨o, e, ex⟩
     obtain ⟨o, e, ex⟩ := z
     refine ⟨⟨o, e, ex.1⟩, fun a e2 => ?_⟩
     cases e2
     exact ⟨o, e, ex.2.1⟩
   · obtain ⟨o, _, _, _, e, ex, _⟩ := I.hok p _ hk
     refine ⟨⟨o, e, ex.1⟩, fun a e2 => ?_⟩
     cases e2
     exact ⟨o, e, ex.2.1⟩
 | _ => exact False.elim ty
def tBM0 (K : PySem.W.Frag) (T : String) (r : V → List V → Hp → VK → Prop) (to : TE) : TE := fun σ H Q => to σ H fun x H1 => tyV K T x H1 ∧ r x [] H1 Q
def tBM (K : PySem.W.Frag) (T : String) (r : V → List V → Hp → VK → Prop) (to : TE) (t : TA) : TE := fun σ H Q => to σ H fun x H1 => tyV K T x H1 ∧ t σ H1 fun xs H2 => r x xs H2 Q
variable {o e : Expr} {es : List Expr} {to : TE} {t : TA} {name : Str} {apos cpos : Pos} {T id : String} {r : V → List V → Hp → VK → Prop}
theorem pe_bm0 (pa : PlainAttrs T) (slot : Slot T name id) (hty : typeOf (.builtin id) = pure (.type "method_descriptor")) (hm : MtR X id r) (ho : PE X o to)
   (hbase : attributeBase o name X.env (eval o X.env) = eval o X.env := by rfl) (hline : (apos.endLine == cpos.line) = true := by rfl) : PE X (.Call (.Attribute o name apos) [] [] cpos) (tBM0 X.K T r to) := by
 intro pins s σ H Q I h
 refine wpAny_Call_method0_late hbase hline (thn (ho pins s σ H _ I h) fun v s1 ⟨x, H1, I1, r1, ty, q1⟩ => ?_)
 obtain ⟨h1, h2⟩ := tyV_is I1 r1 ty
 exact ⟨T, id, pa, slot, hty, h1, h2, Calls.callWith_builtin rfl (PySem.evalArgs_none (hm pins s1 σ H1 x [] v [] Q I1 r1 .nil q1))⟩
theorem pe_bm (pa : PlainAttrs T) (slot : Slot T name id) (hty : typeOf (.builtin id) = pure (.type "method_descriptor")) (hm : MtR X id r) (ho : PE X o to) (ha : PA X (e :: es) t)
   (hbase : attributeBase o name X.env (eval o X.env) = eval o X.env := by rfl)
   (hfew : ((backTo cpos (starEach (e :: es) X.env)).all (fun x => !x.1) && (backToKw cpos (keywordEach [] X.env)).all (fun x => x.1.isSome)
     && decide ((e :: es).length + ([] : List Keyword).length + (if ([] : List Keyword).isEmpty then 0 else 1) < 30)) = true := by rfl)
   (hline : (apos.endLine == cpos.line) = true := by rfl) (hs : starEach (e :: es) X.env = (false, eval e X.env) :: starEach es X.env := by rfl) (hplain : (backTo cpos (starEach es X.env)).any (·.1) = false := by rfl) :
   PE X (.Call (.Attribute o name apos) (e :: es) [] cpos) (tBM X.K T r to t) := by
 intro pins s σ H Q I h
 refine wpAny_Call_method_late hbase hfew hline rfl (thn (ho pins s σ H _ I h) fun v s1 ⟨x, H1, I1, r1, ty, q1⟩ => ?_)
 obtain ⟨h1, h2⟩ := tyV_is I1 r1 ty
 refine ⟨T, id, pa, slot, hty, h1, h2, ?_⟩
 have hA := ha cpos pins s1 σ H1 _ I1 q1
 rw [hs] at hA ⊢
 refine Calls.callWith_builtin (by show (false || (backTo cpos (starEach es X.env)).any (·.1)) = false; rw [hplain] <;> rfl) (Calls.evalArgs_plain ?_)
 exact thn hA fun us s2 ⟨vs, H2, I2, r2, q2⟩ => hm pins s2 σ H2 x vs v us Q I2 r1 r2 q2
/- xs.append(e), list.index on a module's tuple .. are MtR facts of 06m -/
end
end L2
namespace L2
open PySem PySem.Spec PyProof.Rows
def MtM (X : Cx) (id : String) (r : V → List V → Hp → VK → Prop) : Prop :=
 ∀ (pins : List (Addr × Obj)) (s : Shared) (σ : St) (H : Hp) (x : V) (xs : List V) (v : Value) (us : List Value) (Q : VK), Inv X pins σ H s → RelV x v → Vals xs us → r x xs H Q →
   wpAny (model X.prog X.w) X.A (call (.builtin id) (v :: us)) (EP X pins σ Q) X.xe s
theorem Vals.one : ∀ {x : V} {us : List Value}, Vals [x] us → ∃ u, us = [u] ∧ RelV x u
 | _, _, h => by
   cases h with
   | cons r t => cases t; exact ⟨_, rfl, r⟩
theorem Vals.zero : ∀ {us : List Value}, Vals [] us → us = []
 | _, .nil => rfl
theorem Vals.dropLast {xs : List V} {us : List Value} (h : Vals xs us) : Vals xs.dropLast us.dropLast := by
 induction h with
 | nil => exact .nil
 | cons r t ih =>
   cases t with
   | nil => exact .nil
   | cons q t' => exact .cons r ih
theorem Vals.eraseIdx : ∀ {xs : List V} {us : List Value} (i : Nat), Vals xs us → Vals (xs.eraseIdx i) (us.eraseIdx i)
 | _, _, _, .nil => .nil
 | _, _, 0, .cons _ t => t
 | _, _, i + 1, .cons r t => .cons r (Vals.eraseIdx i t)
theorem Vals.reverse {xs : List V} {us : List Value} (h : Vals xs us) : Vals xs.reverse us.reverse := by
 induction h with
 | nil => exact .nil
 | cons r t ih => rw [List.reverse_cons, List.reverse_cons]; exact Vals.append ih (.cons r .nil)
theorem erase_last {α : Type} (l : List α) : l.eraseIdx (l.length - 1) = l.dropLast := by
 induction l with
 | nil => rfl
 | cons a r ih =>
   cases r with
   | nil => rfl
   | cons b r =>
     have e : (a :: b :: r).length - 1 = ((b :: r).length - 1) + 1 := by
       have h1 : (a :: b :: r).length = r.length + 2 := rfl
       have h2 : (b :: r).length = r.length + 1 := rfl
       omega
     rw [e, List.eraseIdx_cons_succ, ih]
     all_goals rfl
theorem len_erase {α : Type} : ∀ (l : List α) (i : Nat), (l.eraseIdx i).length ≤ l.length
 | [], _ => Nat.le_refl _
 | _ :: _, 0 => Nat.le_succ _
 | _ :: r, i + 1 => Nat.succ_le_succ (len_erase r i)
section
variable {X : Cx} {pins : List (Addr × Obj)} {σ : St} {H : Hp} {s : Shared} {l b : Addr} {xs ys zs : List V}
theorem Inv.lset {its its' : List Value} {n : Nat} {f : Array Value → Array Value} {t' : Nat} (I : Inv X pins σ H s) (hH : H l = some (.lst xs))
   (e : s.heap.get? l = some { cls := .type "list", data := .seq its.toArray n }) (hf : f its.toArray = its'.toArray) (hv : Vals ys its') (hz : ys.length ≤ sizeLine) :
   Inv X pins σ (upd H l (.lst ys)) { s with heap := s.heap.update l (Obj.mapSeq f), toks := t' } := by
 have q := PySem.IsL.update e f
 rw [hf] at q
 refine I.write (x := l) (e := l) (by rw [hH]; exact trivial) (.inl rfl) (fun b' u hb hu => (Heap.get?_update_other s.heap (Obj.mapSeq f) (Ne.symm hb)).trans hu) ⟨_, q⟩ ?_
 exact ⟨hz, its', _, hv, q⟩
theorem Inv.lnew {its : List Value} {t' : Nat} (I : Inv X pins σ H s) (hv : Vals ys its) (hz : ys.length ≤ sizeLine) :
   Inv X pins σ (upd H s.heap.objs.size (.lst ys)) { s with heap := s.heap.push { cls := .type "list", data := .seq its.toArray }, toks := t' } :=
 I.laid (fun _ _ q => Heap.get?_push_of_some _ q) (Nat.le_refl _) ⟨hz, its, 0, hv, Heap.get?_push_size _ rfl⟩
theorem Inv.fresh (I : Inv X pins σ H s) : H s.heap.objs.size = none := I.hok.fresh (Nat.le_refl _)
theorem Inv.lstM (I : Inv X pins σ H s) (hH : H l = some (.lst xs)) : xs.length ≤ sizeLine ∧ ∃ (its : List Value) (n : Nat), Vals xs its ∧ xs.length = its.length ∧ s.heap.get? l = some { cls := .type "list", data := .seq its.toArray n } := by
 obtain ⟨z, its, n, r, e⟩ := I.hok l _ hH
 exact ⟨z, its, n, r, r.length, e⟩
theorem notLongL {n : Nat} (h : n ≤ sizeLine) : Builtin.List.listTooLong n = false := by
 unfold Builtin.List.listTooLong
 exact decide_eq_false (by omega)
end
section
variable {X : Cx}
def rAppend : V → List V → Hp → VK → Prop := fun x vs H Q => ∃ l xs y, x = .ref l ∧ vs = [y] ∧ H l = some (.lst xs) ∧ xs.length < sizeLine ∧ Q .non (upd H l (.lst (xs ++ [y])))
theorem mt_append : MtM X "list.append" rAppend := by
 intro pins s σ H x vs v us Q I rx rv h
 obtain ⟨l, xs, y, rfl, rfl, hH, hz, q⟩ := h
 cases rx
 obtain ⟨u, rfl, ru⟩ := rv.one
 obtain ⟨z, its, n, r, hl, e⟩ := I.lstM hH
 refine call_meets F.slot_list_append ⟨_, e, rfl⟩ F.entry_list_append (F.args_list_append_2 _ _) (PySem.list_append l its.toArray n u (by rw [List.size_toArray]; omega)) ⟨e, ?_⟩
 refine ⟨.non, _, I.lset (its' := its ++ [u]) hH e (by simp) (r.append (.cons ru .nil)) ?_, rfl, q⟩
 rw [List.length_append, List.length_singleton]
 omega
def rExtend : V → List V → Hp → VK → Prop := fun x vs H Q => ∃ l b xs zs, x = .ref l ∧ vs = [.ref b] ∧ H l = some (.lst xs) ∧ H b = some (.lst zs) ∧ xs.length + zs.length ≤ sizeLine ∧ Q .non (upd H l (.lst (xs ++ zs)))
theorem mt_extend : MtM X "list.extend" rExtend := by
 intro pins s σ H x vs v us Q I rx rv h
 obtain ⟨l, b, xs, zs, rfl, rfl, hH, hB, hz, q⟩ := h
 cases rx
 obtain ⟨u, rfl, ru⟩ := rv.one
 cases ru
 obtain ⟨z, its, n, r, hl, e⟩ := I.lstM hH
 obtain ⟨z2, its2, n2, r2, hl2, e2⟩ := I.lstM hB
 have hsz : its.toArray.size + its2.toArray.size ≤ sizeLine := by rw [List.size_toArray, List.size_toArray]; omega
 have hlong : ¬ (!its.toArray.isEmpty && Builtin.List.listTooLong (its.toArray.size + its2.toArray.size)) = true := by
   rw [notLongL hsz, Bool.and_false]
   exact Bool.false_ne_true
 refine call_meets F.slot_list_extend ⟨_, e, rfl⟩ F.entry_list_extend (F.args_list_extend_2 _ _)
   (AutoSeq1.list_extend_list_list_0 l its.toArray n b its2.toArray n2 hlong (by rw [List.size_toArray]; omega) (by omega)) ⟨e, e2, ?_⟩
 refine ⟨.non, _, I.lset (its' := its ++ its2) hH e (by simp) (r.append r2) ?_, rfl, q⟩
 rw [List.length_append]
 omega
def rPop : V → List V → Hp → VK → Prop := fun x vs H Q => ∃ l xs y, x = .ref l ∧ vs = [] ∧ H l = some (.lst xs) ∧ xs[xs.length - 1]? = some y ∧ Q y (upd H l (.lst xs.dropLast))
theorem mt_pop : MtM X "list.pop" rPop := by
 intro pins s σ H x vs v us Q I rx rv h
 obtain ⟨l, xs, y, rfl, rfl, hH, hy, q⟩ := h
 cases rx
 have hus := rv.zero
 subst hus
 obtain ⟨z, its, n, r, hl, e⟩ := I.lstM hH
 obtain ⟨u, hu, ru⟩ := r.get hy
 have hy' : its.toArray[its.toArray.size - 1]? = some u := by
   show its.toArray[its.length - 1]? = some u
   rw [← Array.getElem?_toList, ← hl]
   exact hu
 refine call_meets F.slot_list_pop ⟨_, e, rfl⟩ F.entry_list_pop (F.args_list_pop_1 _) (MeetsSeq.list_pop_last l its.toArray n u hy' (by rw [List.size_toArray]; omega)) ⟨e, ?_⟩
 refine ⟨y, _, I.lset (its' := its.dropLast) hH e ?_ r.dropLast ?_, ru, q⟩
 · show its.toArray.eraseIdxIfInBounds (its.toArray.size - 1) = its.dropLast.toArray
   rw [List.size_toArray, List.eraseIdxIfInBounds_toArray, erase_last]
 · rw [List.length_dropLast]
   omega
def rPopAt : V → List V → Hp → VK → Prop := fun x vs H Q => ∃ l xs i k y, x = .ref l ∧ vs = [.int i] ∧ H l = some (.lst xs) ∧ -(2 ^ 63) ≤ i ∧ i < 2 ^ 63 ∧ seqIndex? i xs.length = some k ∧ xs[k]? = some y ∧ Q y (upd H l (.lst (xs.eraseIdx k)))
theorem mt_popAt : MtM X "list.pop" rPopAt := by
 intro pins s σ H x vs v us Q I rx rv h
 obtain ⟨l, xs, i, k, y, rfl, rfl, hH, h1, h2, hk, hy, q⟩ := h
 cases rx
 obtain ⟨u, rfl, ru⟩ := rv.one
 obtain ⟨t, rfl⟩ := ru
 obtain ⟨z, its, n, r, hl, e⟩ := I.lstM hH
 obtain ⟨w, hw, rw'⟩ := r.get hy
 refine call_meets F.slot_list_pop ⟨_, e, rfl⟩ F.entry_list_pop (F.args_list_pop_2 _ _)
   (MeetsSeq.list_pop_at l its.toArray n i t k w (fitsIndex_both h1 h2) (by rw [List.size_toArray, ← hl]; exact hk) (by rw [← Array.getElem?_toList]; exact hw) (by rw [List.size_toArray]; omega)) ⟨e, ?_⟩
 refine ⟨y, _, I.lset (its' := its.eraseIdx k) hH e ?_ (r.eraseIdx k) ?_, rw', q⟩
 · show its.toArray.eraseIdxIfInBounds k = (its.eraseIdx k).toArray
   rw [List.eraseIdxIfInBounds_toArray]
 · have := len_erase xs k
   omega
def rCat : R2 := fun x y H Q => ∃ l b xs zs, x = .ref l ∧ y = .ref b ∧ H l = some (.lst xs) ∧ H b = some (.lst zs) ∧ xs.length + zs.length ≤ sizeLine ∧ ∀ p, H p = none → Q (.ref p) (upd H p (.lst (xs ++ zs)))
theorem op_cat : OpR X (binaryOp .Add) rCat := by
 intro pins s σ H x y v u Q I rx ry h
 obtain ⟨l, b, xs, zs, rfl, rfl, hH, hB, hz, q⟩ := h
 cases rx
 cases ry
 obtain ⟨z, its, n, r, hl, e⟩ := I.lstM hH
 obtain ⟨z2, its2, n2, r2, hl2, e2⟩ := I.lstM hB
 refine PySem.P.add_list e e2 ?_ (by rw [List.size_toArray, List.size_toArray]; omega)
 have ea : its.toArray ++ its2.toArray = (its ++ its2).toArray := by simp
 rw [ea]
 exact ⟨.ref _, _, I.lnew (t' := s.toks) (r.append r2) (by rw [List.length_append]; omega), rfl, q _ I.fresh⟩
end
end L2
namespace L2
open PySem PySem.Spec PyProof.Rows
section
variable {κ : Type} [DecidableEq κ]
def valV (kvs : List (κ × V)) (k : κ) : Option V := (kvs.find? fun kv => decide (kv.1 = k)).map (·.2)
def putK (kvs : List (κ × V)) (k : κ) (v : V) : List (κ × V) :=
 if (kvs.any fun kv => decide (kv.1 = k)) = true then kvs.map (fun kv => if kv.1 = k then (kv.1, v) else kv) else kvs ++ [(k, v)]
theorem valV_pos {p : κ × V} {r : List (κ × V)} {k : κ} (e : p.1 = k) : valV (p :: r) k = some p.2 := by simp [valV, List.find?_cons, e]
theorem valV_neg {p : κ × V} {r : List (κ × V)} {k : κ} (e : ¬ p.1 = k) : valV (p :: r) k = valV r k := by simp [valV, List.find?_cons, e]
theorem valV_any (k : κ) : ∀ kvs : List (κ × V), (kvs.any fun kv => decide (kv.1 = k)) = (valV kvs k).isSome
 | [] => rfl
 | p :: r => by
   rw [List.any_cons]
   by_cases e : p.1 = k
   · simp only [valV_pos e, decide_eq_true e, Bool.true_or, Option.isSome_some]
   · rw [valV_neg e, decide_eq_false e, Bool.false_or]; exact valV_any k r
theorem length_putK (kvs : List (κ × V)) (k : κ) (v : V) : (putK kvs k v).length ≤ kvs.length + 1 := by
 unfold putK
 split
 · rw [List.length_map]; omega
 · rw [List.length_append, List.length_cons, List.length_nil]; omega
theorem RelO.isSome_eq {o : Option V} {u : Option Value} (r : RelO o u) : o.isSome = u.isSome := by
 cases o with
 | none => cases u with
   | none => rfl
   | some _ => exact (show False from r).elim
 | some _ => cases u with
   | none => exact (show False from r).elim
   | some _ => rfl
theorem KV.val {kvs : List (κ × V)} {vs : List (κ × Value)} (r : KV kvs vs) (k : κ) : RelO (valV kvs k) (valueAt vs k) := by
 unfold KV at r
 induction r with
 | nil => exact True.intro
 | @cons p q ps qs h t ih =>
   obtain ⟨h1, h2⟩ := h
   by_cases e : p.1 = k
   · have e' : q.1 = k := h1.symm.trans e
     have b : valueAt (q :: qs) k = some q.2 := by simp [valueAt, List.find?_cons, e']
     rw [valV_pos e, b]; exact h2
   · have e' : ¬ q.1 = k := fun z => e (h1.trans z)
     have b : valueAt (q :: qs) k = valueAt qs k := by simp [valueAt, List.find?_cons, e']
     rw [valV_neg e, b]; exact ih
theorem KV.any {kvs : List (κ × V)} {vs : List (κ × Value)} (r : KV kvs vs) (k : κ) : (kvs.any fun kv => decide (kv.1 = k)) = vs.any fun kv => decide (kv.1 = k) := by
 unfold KV at r
 induction r with
 | nil => rfl
 | cons h t ih => rw [List.any_cons, List.any_cons, ih, h.1]
theorem KV.repl {kvs : List (κ × V)} {vs : List (κ × Value)} (r : KV kvs vs) (k : κ) {y : V} {u : Value} (ry : RelV y u) :
   KV (kvs.map fun kv => if kv.1 = k then (kv.1, y) else kv) (vs.map fun kv => if kv.1 = k then (kv.1, u) else kv) := by
 unfold KV at r ⊢
 induction r with
 | nil => exact .nil
 | @cons p q ps qs h t ih =>
   rw [List.map_cons, List.map_cons]
   refine .cons ?_ ih
   obtain ⟨h1, h2⟩ := h
   by_cases e : p.1 = k
   · rw [if_pos e, if_pos (h1.symm.trans e)]; exact ⟨h1, ry⟩
   · rw [if_neg e, if_neg (fun z => e (h1.trans z))]; exact ⟨h1, h2⟩
theorem KV.put {kvs : List (κ × V)} {vs : List (κ × Value)} (r : KV kvs vs) (k : κ) {y : V} {u : Value} (ry : RelV y u) : KV (putK kvs k y) (stored vs k u) := by
 unfold putK stored
 rw [r.any k]
 by_cases e : (vs.any fun kv => decide (kv.1 = k)) = true
 · rw [if_pos e, if_pos e]; exact r.repl k ry
 · rw [if_neg e, if_neg e]; exact Paired.snoc r ⟨rfl, ry⟩
theorem KV.length {kvs : List (κ × V)} {vs : List (κ × Value)} (r : KV kvs vs) : kvs.length = vs.length := Paired.length r
end
theorem kV_is {P : Program} {w : World} {k : Key} {u : Value} (r : RelV (kV k) u) : (mixKind P w).is k u = true := by
 cases k with
 | inl i => obtain ⟨t, e⟩ := (show ∃ t, u = Value.int i t from r); subst e; exact mixKind_int P w i t
 | inr x => obtain ⟨t, e⟩ := (show ∃ t, u = Value.str x t from r); subst e; exact mixKind_str P w x t
theorem items_are {P : Program} {w : World} : ∀ {ks : List Key} {us : List Value}, Vals (ks.map kV) us → ItemsAre (mixKind P w) ks us
 | [], _, r => by rw [List.map_nil] at r; cases r; exact .nil
 | k :: ks, _, r => by
   rw [List.map_cons] at r
   cases r with
   | cons h t => exact .cons (kV_is h) (items_are t)
abbrev KT (H : Hp) : List (List Key × V) → List (List Key × Addr × Value) → Prop := Paired fun p q => p.1 = q.1 ∧ H q.2.1 = some (.tup (p.1.map kV)) ∧ RelV p.2 q.2.2
theorem KT.val {H : Hp} {kvs : List (List Key × V)} {xs : List (List Key × Addr × Value)} (r : KT H kvs xs) (k : List Key) : RelO (valV kvs k) ((atKey xs k).map (·.2)) := by
 induction r with
 | nil => exact True.intro
 | @cons p q ps qs h t ih =>
   obtain ⟨h1, _, h2⟩ := h
   by_cases e : p.1 = k
   · have e' : q.1 = k := h1.symm.trans e
     have b : atKey (q :: qs) k = some q.2 := by simp [atKey, List.find?_cons, e']
     rw [valV_pos e, b]; exact h2
   · have e' : ¬ q.1 = k := fun z => e (h1.trans z)
     have b : atKey (q :: qs) k = atKey qs k := by simp [atKey, List.find?_cons, e']
     rw [valV_neg e, b]; exact ih
theorem KT.repl {H : Hp} {kvs : List (List Key × V)} {xs : List (List Key × Addr × Value)} (r : KT H kvs xs) (k : List Key) {y : V} {u : Value} (ry : RelV y u) :
   KT H (kvs.map fun kv => if kv.1 = k then (kv.1, y) else kv) (xs.map (putAt k u)) := by
 induction r with
 | nil => exact .nil
 | @cons p q ps qs h t ih =>
   rw [List.map_cons, List.map_cons]
   refine .cons ?_ ih
   obtain ⟨h1, h2, h3⟩ := h
   unfold putAt
   by_cases e : p.1 = k
   · rw [if_pos e, if_pos (h1.symm.trans e)]; exact ⟨h1, h2, ry⟩
   · rw [if_neg e, if_neg (fun z => e (h1.trans z))]; exact ⟨h1, h2, h3⟩
theorem KT.put {H : Hp} {kvs : List (List Key × V)} {xs : List (List Key × Addr × Value)} (r : KT H kvs xs) (k : List Key) {b : Addr} {y : V} {u : Value} (hb : H b = some (.tup (k.map kV))) (ry : RelV y u) :
   KT H (putK kvs k y) (storedH xs k b u) := by
 have e : (kvs.any fun kv => decide (kv.1 = k)) = (atKey xs k).isSome := by
   rw [valV_any, (r.val k).isSome_eq, Option.isSome_map]
 unfold putK storedH
 rw [e]
 by_cases q : (atKey xs k).isSome = true
 · rw [if_pos q, if_pos q]; exact r.repl k ry
 · rw [if_neg q, if_neg q]; exact Paired.snoc r ⟨rfl, hb, ry⟩
theorem KT.keeps {H H' : Hp} {kvs : List (List Key × V)} {xs : List (List Key × Addr × Value)} (r : KT H kvs xs) (ht : ∀ b ys, H b = some (.tup ys) → H' b = some (.tup ys)) : KT H' kvs xs :=
 Paired.mapP r fun _ _ z => ⟨z.1, ht _ _ z.2.1, z.2.2⟩
section
variable {P : Program} {w : World} {H : Hp} {h : Heap} {a : Addr}
theorem rd_of {u : HO} (ok : HOk P w H h) (e : Rd H a u) : ObjOk P w H h a u := e.ok ok
theorem dk_rd {kvs : List (Key × V)} (ok : HOk P w H h) (e : Rd H a (.dK kvs)) : kvs.length ≤ sizeLine ∧ (a == sysModules) = false ∧ ∃ vs, KV kvs vs ∧ h.DictOf (mixKind P w) a vs :=
 show ObjOk P w H h a (.dK kvs) from rd_of ok e
theorem dk_of {kvs : List (Key × V)} (ok : HOk P w H h) (e : H a = some (.dK kvs)) : kvs.length ≤ sizeLine ∧ (a == sysModules) = false ∧ ∃ vs, KV kvs vs ∧ h.DictOf (mixKind P w) a vs := dk_rd ok (.inl e)
theorem key_of {ks : List Key} (ok : HOk P w H h) (e : H a = some (.tup (ks.map kV))) : (tupleKind (mixKind P w)).is h ks a := by
 obtain ⟨_, its, r, o, h1, h2, n, h3⟩ := (show ObjOk P w H h a (.tup (ks.map kV)) from ok a _ e)
 exact ⟨o, its.toArray, n, h1, h2, h3, by simpa using items_are r⟩
theorem dt_rd {kvs : List (List Key × V)} (ok : HOk P w H h) (e : Rd H a (.dT kvs)) : kvs.length ≤ sizeLine ∧ (a == sysModules) = false ∧
   ∃ xs, KT H kvs xs ∧ h.DictOfH (tupleKind (mixKind P w)) a xs := by
 obtain ⟨z, y, xs, r, o, es, ep, h1, h2, h3, h4, h5⟩ := (show ObjOk P w H h a (.dT kvs) from rd_of ok e)
 refine ⟨z, y, xs, r, o, es, ep, h1, h2, h3, h4, fun x hx => ?_, h5⟩
 have all : ∀ {l : List (List Key × V)} {m : List (List Key × Addr × Value)}, KT H l m → ∀ x ∈ m, (tupleKind (mixKind P w)).is h x.1 x.2.1 := by
   intro l m q
   induction q with
   | nil => intro x hx; exact nomatch hx
   | @cons p q ps qs hq t ih =>
     intro x hx
     rcases List.mem_cons.mp hx with e | hx
     · subst e
       exact key_of ok (by rw [← hq.1]; exact hq.2.1)
     · exact ih x hx
 exact all r x hx
theorem dt_of {kvs : List (List Key × V)} (ok : HOk P w H h) (e : H a = some (.dT kvs)) : kvs.length ≤ sizeLine ∧ (a == sysModules) = false ∧
   ∃ xs, KT H kvs xs ∧ h.DictOfH (tupleKind (mixKind P w)) a xs := dt_rd ok (.inl e)
end
def DGet (H : Hp) (a : Addr) (y : V) (r : Option V) : Prop :=
 (∃ kvs k, Rd H a (.dK kvs) ∧ y = kV k ∧ r = valV kvs k) ∨ ∃ kvs k b, Rd H a (.dT kvs) ∧ y = .ref b ∧ H b = some (.tup (k.map kV)) ∧ r = valV kvs k
def DPut (H : Hp) (a : Addr) (y v : V) (H' : Hp) : Prop :=
 (∃ kvs k, H a = some (.dK kvs) ∧ y = kV k ∧ kvs.length < sizeLine ∧ H' = upd H a (.dK (putK kvs k v))) ∨
 ∃ kvs k b, H a = some (.dT kvs) ∧ y = .ref b ∧ H b = some (.tup (k.map kV)) ∧ kvs.length < sizeLine ∧ H' = upd H a (.dT (putK kvs k v))
theorem DPut.t {H : Hp} {a b : Addr} {kvs : List (List Key × V)} {k : List Key} {v : V} (e : H a = some (.dT kvs)) (eb : H b = some (.tup (k.map kV))) (hl : kvs.length < sizeLine) :
   DPut H a (.ref b) v (upd H a (.dT (putK kvs k v))) := .inr ⟨kvs, k, b, e, rfl, eb, hl, rfl⟩
section
variable {X : Cx} {pins : List (Addr × Obj)} {σ : St} {H : Hp} {s : Shared} {a : Addr} {y v : V} {u r : Value} {o : Option V} {A : Around} {E : Value → Shared → Prop}
theorem Inv.big (I : Inv X pins σ H s) : sysModules < s.heap.objs.size := by
 have h : mainGlobals < s.heap.objs.size := (I.mod.glob.keeps I.bk).lt
 exact Nat.lt_trans (by decide) h
theorem d_getItem {Q : Value → Shared → Prop} (hu : A.units + 1 < cLine) (I : Inv X pins σ H s) (g : DGet H a y (some v)) (ry : RelV y u) (h : ∀ w' s', Inv X pins σ H s' → RelV v w' → Q w' s') :
   wpAny (model X.prog X.w) A (getItem (.ref a) u) Q E s := by
 rcases g with ⟨kvs, k, e, ey, l⟩ | ⟨kvs, k, b, e, ey, eb, l⟩
 · subst ey
   obtain ⟨z, hd, vs, rel, dd⟩ := dk_rd I.hok e
   obtain ⟨w', hw, rw'⟩ := RelO.some_of (v := v) (o := valueAt vs k) (by rw [l]; exact rel.val k)
   exact wpAny_getItem_of (kV_is ry) dd.mapOf hw (h w' _ (I.tok _) rw')
 · subst ey
   cases (show u = Value.ref b from ry)
   obtain ⟨z, hd, xs, rel, dd⟩ := dt_rd I.hok e
   obtain ⟨w', hw, rw'⟩ := RelO.some_of (v := v) (o := (atKey xs k).map (·.2)) (by rw [l]; exact rel.val k)
   obtain ⟨p, hp, hp2⟩ := Option.map_eq_some_iff.mp hw
   refine wpAny_getItem_heap (tupleKind_room_in1 hu) (key_of I.hok eb) dd hp ?_
   rw [hp2]
   exact h w' _ (I.tok _) rw'
theorem d_write {h' : Heap} {t' : Nat} {ob : HO} (I : Inv X pins σ H s) (mu : Mut (H a)) (hs : Heap.SameBut a s.heap h') (he : ∃ q, h'.get? a = some q) (new : ObjOk X.prog X.w (upd H a ob) h' a ob) :
   Inv X pins σ (upd H a ob) { s with heap := h', toks := t' } :=
 I.write (x := a) (e := a) mu (.inl rfl) (fun b q hb z => (hs.2 b hb).trans z) he new
theorem dk_new {P : Program} {w : World} {H' : Hp} {h' : Heap} {kvs : List (Key × V)} {vs : List (Key × Value)} (z : kvs.length ≤ sizeLine) (hd : (a == sysModules) = false) (rel : KV kvs vs) (dd : h'.DictOf (mixKind P w) a vs) :
   ObjOk P w H' h' a (.dK kvs) := ⟨z, hd, vs, rel, dd⟩
theorem d_setItem {H' : Hp} {Q : Unit → Shared → Prop} (hu : A.units + 1 < cLine) (I : Inv X pins σ H s) (g : DPut H a y v H') (ry : RelV y u) (rv : RelV v r) (h : ∀ s', Inv X pins σ H' s' → Q () s') :
   wpAny (model X.prog X.w) A (setItem (.ref a) u r) Q E s := by
 rcases g with ⟨kvs, k, e, ey, l, eH⟩ | ⟨kvs, k, b, e, ey, eb, l, eH⟩
 · subst ey eH
   obtain ⟨z, hd, vs, rel, dd⟩ := dk_of I.hok e
   have hz : vs.length ≤ sizeLine := by rw [← rel.length]; exact z
   have hl : (putK kvs k v).length ≤ sizeLine := by have := length_putK kvs k v; omega
   refine wpAny_setItem_pairs (hsz := hz) (kV_is ry) dd fun h' dd' hs => h _ ?_
   have he : ∃ q, h'.get? a = some q := let ⟨q, _, _, hq, _⟩ := dd'; ⟨q, hq⟩
   exact d_write I (by rw [e]; exact True.intro) hs he (dk_new hl hd (rel.put k rv) dd')
 · subst ey eH
   cases (show u = Value.ref b from ry)
   obtain ⟨z, hd, xs, rel, dd⟩ := dt_of I.hok e
   have hz : xs.length ≤ sizeLine := by rw [← Paired.length rel]; exact z
   have hl : (putK kvs k v).length ≤ sizeLine := by have := length_putK kvs k v; omega
   refine wpAny_setItem_heap (hsz := hz) (tupleKind_room_in1 hu) (key_of I.hok eb) dd fun h' dd' hs => h _ ?_
   obtain ⟨q, es, ep, hq, h2, h3, h4, _, h5⟩ := dd'
   refine d_write I (by rw [e]; exact True.intro) hs ⟨q, hq⟩ ⟨hl, hd, _, (rel.put k eb rv).keeps fun c ys ec => ?_, q, es, ep, hq, h2, h3, h4, h5⟩
   rw [upd_ne (ne_of ec e (fun z => nomatch z))]
   exact ec
end
def NoSl (i : Expr) : Prop := ∀ ov iv, subscripted i false ov iv = operate [ov, iv] (getItem ov iv)
theorem subD_of {prog : Program} {w : World} {A : Around} {E : Value → Shared → Prop} {s : Shared} {env : Env} {value slice : Expr} {pos : Pos} {T id : String} {Q : Value → Shared → Prop}
   (hl : typeLookup (.type T) "__getitem__" = pure (some (.builtin id))) (hs : NoSl slice)
   (h : wpAny (model prog w) A (eval value env) (fun o s₁ => wpAny (model prog w) A (eval slice env) (fun i s₂ => s₂.TypeIs o T ∧ wpAny (model prog w) A (getItem o i) Q E s₂) E s₁) E s) :
   wpAny (model prog w) A (eval (.Subscript value slice pos) env) Q E s := by
 refine Subscript_ (wpAny_mono h (fun o s₁ h₁ => wpAny_mono h₁ (fun i s₂ h₂ => ?_) fun _ _ x => x) fun _ _ x => x)
 obtain ⟨hT, h₂⟩ := h₂
 unfold subscriptTail
 refine wpAny_bind ?_
 rw [getitemInPython_of_ne hT.not_modules]
 refine wpAny_bind (wpAny_specialOf hT hl ?_)
 have fin : wpAny (model prog w) A (subscripted slice false o i) (fun r s₃ => wpAny (model prog w) A (letTemporaryGo value o r >>= fun _ => pure r) Q E s₃) E s₂ := by
   rw [hs o i]
   exact wpAny_operating (wpAny_mono h₂ (fun r s₃ h₃ => wpAny_bind (wpAny_letTemporaryGo (wpAny_pure h₃))) fun _ _ x => x)
 first
   | exact wpAny_pure (wpAny_bind fin)
   | exact wpAny_bind (wpAny_pure (wpAny_bind fin))
   | exact wpAny_bind fin
theorem dict_typeIs {X : Cx} {pins : List (Addr × Obj)} {σ : St} {H : Hp} {s : Shared} {a : Addr} {y : V} {o : Option V} (I : Inv X pins σ H s) (g : DGet H a y o) : s.TypeIs (.ref a) "dict" := by
 rcases g with ⟨kvs, k, e, _, _⟩ | ⟨kvs, k, b, e, _, _, _⟩
 · obtain ⟨_, _, vs, _, dd⟩ := dk_rd I.hok e
   exact dd.typeIs
 · obtain ⟨_, _, xs, _, dd⟩ := dt_rd I.hok e
   exact dd.typeIs
def tDGet (td ty : TE) : TE := fun σ H Q => td σ H fun x H1 => ty σ H1 fun y H2 => ∃ a v, x = .ref a ∧ DGet H2 a y (some v) ∧ Q v H2
def sDPut (td ty tv : TE) : TS := fun D σ H => tv σ H fun v H1 => td σ H1 fun x H2 => ty σ H2 fun y H3 => ∃ a H4, x = .ref a ∧ DPut H3 a y v H4 ∧ D.nx σ H4
section
variable {X : Cx} {o i e value : Expr} {pos pos' tpos : Pos} {td ty tv : TE}
theorem pe_dget (hu : X.A.units + 1 < cLine) (ho : PE X o td) (hi : PE X i ty) (hs : NoSl i) : PE X (.Subscript o i pos) (tDGet td ty) := by
 intro pins s σ H Q I h
 refine subD_of PySem.F.slot_dict_getitem.lookup hs (thn (ho pins s σ H _ I h) fun u s1 ⟨x, H1, I1, rx, q1⟩ => thn (hi pins s1 σ H1 _ I1 q1) fun iv s2 ⟨y, H2, I2, ry, a, v, ex, g, q2⟩ => ?_)
 subst ex
 obtain rfl : u = Value.ref a := rx
 exact ⟨dict_typeIs I2 g, d_getItem hu I2 g ry fun w' s3 I3 rw' => ⟨v, H2, I3, rw', q2⟩⟩
theorem ps_dput (hu : X.A.units + 1 < cLine) (ho : PE X o td) (hi : PE X i ty) (hv : PE X value tv) (hs : swapsWith value (some (.Subscript o i pos')) pos.line X.env = pure false) :
   PS X (.Assign [.Subscript o i pos'] value pos) (sDPut td ty tv) := by
 intro pins s σ H D I h
 refine wpAny_Assign_Subscript (thn (hv pins s σ H _ I h) fun r s1 ⟨v, H1, I1, rv, q1⟩ => thn (ho pins s1 σ H1 _ I1 q1) fun u s2 ⟨x, H2, I2, rx, q2⟩ => thn (hi pins s2 σ H2 _ I2 q2) fun iv s3 ⟨y, H3, I3, ry, a, H4, ex, g, q3⟩ => ?_) hs
 subst ex
 obtain rfl : u = Value.ref a := rx
 exact d_setItem hu I3 g ry rv fun s4 I4 => ⟨σ, H4, I4, q3⟩
end
theorem dk_empty {P : Program} {w : World} {H : Hp} (h : Heap) (hb : sysModules < h.objs.size) : ObjOk P w H (h.push { cls := .type "dict", data := .dict #[] }) h.objs.size (.dK []) :=
 ⟨Nat.zero_le _, beq_eq_false_iff_ne.mpr (Ne.symm (Nat.ne_of_lt hb)), [], .nil, Heap.DictOf.new h⟩
theorem dt_empty {P : Program} {w : World} {H : Hp} (h : Heap) (hb : sysModules < h.objs.size) : ObjOk P w H (h.push { cls := .type "dict", data := .dict #[] }) h.objs.size (.dT []) :=
 ⟨Nat.zero_le _, beq_eq_false_iff_ne.mpr (Ne.symm (Nat.ne_of_lt hb)), [], .nil, _, #[], 0, Heap.get?_push_size _ rfl, ⟨rfl, rfl, rfl⟩, rfl, rfl, List.nodup_nil⟩
def tDNewT : TE := fun _ H Q => ∀ p, H p = none → Q (.ref p) (upd H p (.dT []))
section
variable {X : Cx} {pos : Pos}
theorem pe_dnewT : PE X (.Dict [] [] pos) tDNewT := fun pins s σ H Q I h =>
 wpAny_Dict_empty ⟨.ref s.heap.objs.size, _, I.laid (a := s.heap.objs.size) (o := .dT []) (t' := s.toks) (fun _ _ q => Heap.get?_push_of_some _ q) (Nat.le_refl _) (dt_empty s.heap I.big), rfl, h _ (I.hok.fresh (Nat.le_refl _))⟩
end
def tPairs : List (TE × TE) → St → Hp → (List (V × V) → Hp → Prop) → Prop
 | [], _, H, Q => Q [] H
 | (tk, tv) :: r, σ, H, Q => tk σ H fun x H1 => tv σ H1 fun y H2 => tPairs r σ H2 fun ps H3 => Q ((x, y) :: ps) H3
abbrev VV : List (V × V) → List (Value × Value) → Prop := Paired fun p q => RelV p.1 q.1 ∧ RelV p.2 q.2
def PPs (X : Cx) (pos : Pos) (keys : List (Option Expr)) (values : List Expr) (trs : List (TE × TE)) : Prop :=
 ∀ (pins : List (Addr × Obj)) (s : Shared) (σ : St) (H : Hp) (Q : List (V × V) → Hp → Prop), Inv X pins σ H s → tPairs trs σ H Q →
   wpAny (model X.prog X.w) X.A (evalPairs (pairTrees keys values X.env pos)) (fun vs s' => ∃ ps H', Inv X pins σ H' s' ∧ VV ps vs ∧ Q ps H') X.xe s
theorem pps_nil {X : Cx} {pos : Pos} : PPs X pos [] [] [] := fun pins s σ H Q I h => pairTrees_nil_walk ⟨[], H, I, .nil, h⟩
theorem pps_cons {X : Cx} {pos : Pos} {k v : Expr} {ks : List (Option Expr)} {vs : List Expr} {tk tv : TE} {trs : List (TE × TE)} (hk : PE X k tk) (hv : PE X v tv) (hr : PPs X pos ks vs trs) :
   PPs X pos (some k :: ks) (v :: vs) ((tk, tv) :: trs) := fun pins s σ H Q I h =>
 pairTrees_cons_walk (thn (hk pins s σ H _ I h) fun u s1 ⟨x, H1, I1, rx, q1⟩ => thn (hv pins s1 σ H1 _ I1 q1) fun w2 s2 ⟨y, H2, I2, ry, q2⟩ =>
   thn (hr pins s2 σ H2 _ I2 q2) fun ws s3 ⟨ps, H3, I3, rel, q3⟩ => ⟨(x, y) :: ps, H3, I3, .cons ⟨rx, ry⟩ rel, q3⟩)
def mergeK (kvs more : List (Key × V)) : List (Key × V) := more.foldl (fun acc kv => putK acc kv.1 kv.2) kvs
theorem KV.merge : ∀ {more : List (Key × V)} {rs : List (Key × Value)} {kvs : List (Key × V)} {vs : List (Key × Value)}, KV more rs → KV kvs vs → KV (mergeK kvs more) (merged vs rs) := by
 intro more rs kvs vs r
 unfold KV at r
 induction r generalizing kvs vs with
 | nil => intro q; exact q
 | @cons p q ps qs h t ih =>
   intro r0
   have e : KV (putK kvs p.1 p.2) (stored vs q.1 q.2) := by
     have := r0.put p.1 h.2
     rw [← h.1]; exact this
   exact ih e
theorem length_mergeK : ∀ (more kvs : List (Key × V)), (mergeK kvs more).length ≤ kvs.length + more.length
 | [], kvs => by show kvs.length ≤ kvs.length + 0; omega
 | p :: r, kvs => by
   have h1 := length_mergeK r (putK kvs p.1 p.2)
   have h2 := length_putK kvs p.1 p.2
   show (mergeK (putK kvs p.1 p.2) r).length ≤ _
   rw [List.length_cons]; omega
theorem carries_of {P : Program} {w : World} : ∀ {kvs : List (Key × V)} {ws : List (Value × Value)}, VV (kvs.map fun kv => (kV kv.1, kv.2)) ws → ∃ rs, Carries (mixKind P w) ws rs ∧ KV kvs rs
 | [], _, r => by rw [List.map_nil] at r; cases r; exact ⟨[], True.intro, .nil⟩
 | p :: kvs, _, r => by
   rw [List.map_cons] at r
   cases r with
   | @cons a b as bs h t =>
     obtain ⟨rs, c, q⟩ := carries_of (P := P) (w := w) t
     obtain ⟨b1, b2⟩ := b
     exact ⟨(p.1, b2) :: rs, ⟨kV_is h.1, rfl, c⟩, .cons ⟨rfl, h.2⟩ q⟩
def tDisp (trs : List (TE × TE)) : TE := fun σ H Q => ∀ p, H p = none → tPairs trs σ (upd H p (.dK [])) fun ps H2 => H2 p = some (.dK []) ∧ ∃ kvs : List (Key × V), ps = kvs.map (fun kv => (kV kv.1, kv.2)) ∧ kvs.length ≤ 15 ∧ Q (.ref p) (upd H2 p (.dK (mergeK [] kvs)))
theorem pe_disp {X : Cx} {pos : Pos} {keys : List (Option Expr)} {values : List Expr} {trs : List (TE × TE)} (h : PPs X pos keys values trs) (hall : keys.all (·.isSome) = true) (hl : keys.length = values.length) (h0 : keys ≠ [])
   (h15 : keys.length ≤ 15) : PE X (.Dict keys values pos) (tDisp trs) := by
 intro pins s σ H Q I q
 have hn := I.hok.fresh (Nat.le_refl s.heap.objs.size)
 have I1 := I.laid (a := s.heap.objs.size) (o := .dK []) (h' := s.heap.push { cls := .type "dict", data := .dict #[] }) (t' := s.toks) (fun _ _ q => Heap.get?_push_of_some _ q) (Nat.le_refl _) (dk_empty s.heap I.big)
 refine wpAny_Dict_walk (knd := mixKind X.prog X.w) hall hl h0 h15 (thn (h pins _ σ _ _ I1 (q _ hn)) fun ws s2 ⟨ps, H2, I2, rel, e, kvs, ep, lk, q2⟩ => ?_)
 subst ep
 obtain ⟨rs, c, rk⟩ := carries_of (P := X.prog) (w := X.w) rel
 obtain ⟨z, hd, vs0, r0, dd⟩ := dk_of I2.hok e
 cases r0
 refine ⟨rs, c, dd, fun h' dd' hs => ⟨.ref s.heap.objs.size, _, ?_, rfl, q2⟩⟩
 have hz : (mergeK [] kvs).length ≤ sizeLine := by
   have h1 := length_mergeK kvs []
   rw [List.length_nil] at h1
   rw [sizeLine_eq]; omega
 have he : ∃ q, h'.get? s.heap.objs.size = some q := let ⟨q, _, _, hq, _⟩ := dd'; ⟨q, hq⟩
 exact d_write I2 (by rw [e]; exact True.intro) hs he (dk_new hz hd (rk.merge .nil) dd')
end L2
namespace Att
open PySem PySem.W PySem.Calls PyProof.Rows
theorem ints_of_wellAll {P : Params} {h : Heap} : ∀ (ns : List Int) (vs : List Value), WellAll P h vs (ns.map WData.int) → IntsAre vs ns := by
 intro ns
 induction ns with
 | nil =>
   intro vs w
   rw [List.map_nil] at w
   cases w
   exact .nil
 | cons n ns ih =>
   intro vs w
   rw [List.map_cons] at w
   cases w with
   | cons a b =>
     cases a
     exact .cons _ _ (ih _ b)
theorem script_of {l : OpenLaw} {n : Nat} (hn : l.most = some n) {P : Params} {h : Heap} {args : List WData} {vals : List Value}
   (hpre : l.row.toRowW.claim.pre args = true) (hwl : WellAll P h vals args) :
   ∃ a vs ns, vals = [Value.ref a] ∧ args = [WData.list (ns.map WData.int)] ∧ h.get? a = some { cls := .type "list", data := .seq vs.toArray } ∧ IntsAre vs ns ∧ ns.length ≤ n := by
 have hsh : WShape.hasAll [] args [.list .int] = true := (pre_splitW hpre).1
 have hc : l.pre.holds [] { args := args } = true := (pre_splitW hpre).2
 obtain ⟨d, r, rfl, h1, h2⟩ := hasAllW_cons hsh
 obtain rfl := hasAllW_nil h2
 obtain ⟨xs, rfl, h3⟩ := hasW_list h1
 obtain ⟨ns, rfl⟩ := items_int h3
 have hlen : ns.length ≤ n := by
   unfold OpenLaw.pre at hc
   have h4 : (WTm.not (.lt (.lit (.int (n : Int))) (.len (.arg 0)))).holds [] { args := [.list (ns.map .int)] } = true := by
     have h4 := (holds_andW hc).1
     rw [hn] at h4
     exact h4
   have h5 := condW_of h4 (w_not (w_lt w_lit (w_len_list (w_arg rfl))))
   rw [List.length_map] at h5
   refine Nat.le_of_not_lt fun q => ?_
   have q' : (n : Int) < ((ns.length : Nat) : Int) := by omega
   first
     | (rw [decide_eq_true q'] at h5; exact absurd h5 (by decide))
     | (simp at h5; omega)
 cases hwl with
 | cons w1 w2 =>
   cases w2
   cases w1 with
   | list ho hall => exact ⟨_, _, ns, rfl, rfl, ho, ints_of_wellAll ns _ hall, hlen⟩
theorem post_true (l : OpenLaw) (args : List WData) : l.row.toRowW.claim.post args (.bool true) args = true :=
 postW_of (r := l.row.toRowW) (X := (true == true))
   (show WShape.has [] (.bool true) .bool = true by first | rfl | decide | simp [WShape.has, WShape.arms, WShape.armsAll])
   (show (WTm.eq .res (.lit (.bool true))).value [] { args := args, res := some (.bool true), after := args } = some (.bool (true == true)) from w_eq_bool (w_res rfl) w_lit) rfl
theorem attach_call {l : OpenLaw} {n : Nat} {q : Program} {loose : List Str} {XP : (Str → Option Value) → Heap → Prop} {YP : World → Heap → Prop} {d : DefRec}
   (hn : l.most = some n) (hdf : d.params.defaults = [])
   (call : ∀ (w : World) (s₀ s₁ : Shared) (mg mb : Str → Option Value) (fa : Addr) (o : Obj) (pm cd doc : Value) (a : Addr) (vs : List Value) (ns : List Int),
     Ground q loose [] XP w s₀ mg mb s₁.heap → YP w s₁.heap →
     s₁.heap.get? fa = some o → o.data = .func (docDef d.name d.params d.body d.scope pm cd doc) → s₁.heap.CodeRec cd d.name → mg d.name = some (.ref fa) →
     s₁.heap.get? a = some { cls := .type "list", data := .seq vs.toArray } → IntsAre vs ns → ns.length ≤ n → s₁.gens = #[] →
     codeAny (model l.prog w) callerA (.call (.ref fa) ⟨[.ref a], []⟩) (fun r s' => r = .ok (.ret (.bool true)) ∧ OldK s₁.heap s'.heap ∧ s'.os = s₁.os ∧ AllBare s'.gens) s₁) :
   WalkO q loose XP YP l.row.toRowW d [] (fun f vs => PySem.call f vs) := by
 intro w s₀ s₁ mg mb G Y fa o pm cd doc dV kV ho hd hcd hD hmg hg args vals as hpre hlay hrd hwl hlo
 obtain rfl : dV = .none := Dflts.none hD hdf
 obtain rfl : kV = .none := Dflts.noKw hD
 obtain ⟨a, vs, ns, rfl, rfl, hobj, hints, hlen⟩ := script_of hn hpre hwl
 refine enter_call (codeAny_mono (call w s₀ s₁ mg mb fa o pm cd doc a vs ns G Y ho (fd_plain hd) hcd hmg hobj hints hlen hg) fun r s' hq => ?_)
 obtain ⟨rfl, h2, h3, h4⟩ := hq
 exact ⟨.inl ⟨.bool true, .bool true, [], rfl, fun _ => rfl, .bool true, post_true l _, fun _ => ⟨List.Pairwise.nil, fun _ hm => (nomatch hm)⟩⟩, h2, h3, h4⟩
end Att
namespace L2
open PySem PySem.Spec PyProof.Rows
theorem vals_ints : ∀ {vs : List Value} {ns : List Int}, IntsAre vs ns → Vals (ns.map V.int) vs
 | _, _, .nil => .nil
 | _, _, .cons n t h => .cons ⟨t, rfl⟩ (vals_ints h)
def Only (H : Hp) : Prop := ∀ b, H b = none ∨ ∃ o xs, H b = some (.frz o (.lst xs))
theorem law_call {P : Program} {w : World} {K : PySem.W.Frag} {mg mb : Str → Option Value} {CX : CXT} {k : Nat} {fa a : Addr} {fd : FuncData} {x : Str} {sp : Sp} {s₁ : Shared} {vs : List Value} {ns : List Int}
   (KX : K.In s₁.heap) (hns : s₁.heap.Ns mainGlobals mg) (hb : s₁.heap.Ns builtinsNs mb) (hbb : ∀ x : Str, x ≠ "__name__" → mb x = bootBuiltins x) (hlim : s₁.heap.NoLimit) (hg : s₁.gens = #[])
   (ha : s₁.heap.get? a = some { cls := .type "list", data := .seq vs.toArray }) (hi : IntsAre vs ns) (hl : ns.length ≤ sizeLine) (hr : Room k callerA)
   (F : ∀ base : Heap, K.In base → base.Ns mainGlobals mg → FnOk P w K mg base CX k fa fd [x] sp) (hbind : ∀ (s : Shared) (u : Value), BindsTo s fd ⟨[u], []⟩ [(x, u)])
   (hsp : ∀ H : Hp, Only H → SqL K H a (ns.map V.int) → sp [.ref a] H (fun v _ => v = .bl true) fun _ _ _ => False)
   (hCX : ∀ H e s', CX [] H s₁ (fun _ _ _ => False) e s' → False) :
   codeAny (model P w) callerA (.call (.ref fa) ⟨[.ref a], []⟩) (fun r s' => r = .ok (.ret (.bool true)) ∧ OldK s₁.heap s'.heap ∧ s'.os = s₁.os ∧ AllBare s'.gens) s₁ := by
 have rv := vals_ints hi
 have lenV := hi.length
 -- from an abstract heap in which nothing but the script may be tracked
 have core : ∀ H : Hp, Only H → SqL K H a (ns.map V.int) → HOk P w H s₁.heap → (∀ b, H b ≠ none → b = a) → (H a ≠ none → K.lookup a = none) →
     codeAny (model P w) callerA (.call (.ref fa) ⟨[.ref a], []⟩) (fun r s' => r = .ok (.ret (.bool true)) ∧ OldK s₁.heap s'.heap ∧ s'.os = s₁.os ∧ AllBare s'.gens) s₁ := by
   intro H hO hS hok hA hK
   have base_of : ∀ {b : Addr} {o : Obj}, s₁.heap.get? b = some o → H b = none → (hidT s₁.heap H).get? b = some o := fun e n => hidT_get e n
   have noA : ∀ {b : Addr} {o : Obj} {es : Array DictEntry} {ep : Nat}, s₁.heap.get? b = some o → o.data = .dict es ep → H b = none := fun {b o es ep} e d => by
     cases q : H b with
     | none => rfl
     | some u =>
       have e' : b = a := hA b (by rw [q]; simp)
       subst e'
       rw [ha] at e; cases e
       have d' : Data.seq vs.toArray _ = Data.dict es ep := d
       cases d'
   have nsK : ∀ {b : Addr} {m : Str → Option Value}, s₁.heap.Ns b m → (hidT s₁.heap H).Ns b m := fun {b m} ⟨o, es, ep, e, d, r⟩ => ⟨o, es, ep, base_of e (noA e d), d, r⟩
   have hKb : K.In (hidT s₁.heap H) := fun b o e => base_of (KX b o e) (by
     cases q : H b with
     | none => rfl
     | some u =>
       have e' : b = a := hA b (by rw [q]; simp)
       subst e'
       rw [hK (by rw [q]; simp)] at e; cases e)
   have hM : Mod K mg (hidT s₁.heap H) := ⟨hKb, nsK hns, ⟨mb, nsK hb, hbb⟩, let ⟨mc, h1, h2⟩ := hlim; ⟨mc, nsK h1, h2⟩⟩
   have e0 : Env0 P w K mg (hidT s₁.heap H) callerA [] s₁ H := ⟨rfl, hM, fun b o e => of_hidT e, Nat.le_of_eq (hidT_size _ _), trivial, fun b hb => absurd (show b ∈ ([] : List Addr) from hb) (by simp), hok, .of_eq hg⟩
   refine codeAny_mono ((F _ hKb (nsK hns)).run callerA [] s₁ H ⟨[.ref a], []⟩ [.ref a] [.ref a] _ _ hr e0 (hbind s₁ (.ref a)) (.cons rfl .nil) (hsp H hO hS)) fun r s' h => ?_
   cases r with
   | error e => exact (hCX H e s' h).elim
   | ok fl =>
     cases fl with
     | next => exact False.elim h
     | brk => exact False.elim h
     | cont => exact False.elim h
     | ret u =>
       obtain ⟨v, H', os, bare, un, hok', r', q⟩ := h
       have q' : v = .bl true := q
       subst q'
       obtain rfl : u = Value.bool true := r'
       refine ⟨rfl, OldK.of_keep fun b o e => ?_, os, bare⟩
       cases q : H b with
       | none => exact un.keep b o e q (by intro z; exact absurd (show b ∈ ([] : List Addr) from z) (by simp)) (by simp)
       | some u =>
         rcases hO b with z | ⟨ob, xs, z⟩
         · rw [q] at z; cases z
         · have z2 := un.frzs b ob _ z
           obtain ⟨e1, _⟩ := hok b _ z
           obtain ⟨e2, _⟩ := hok' b _ z2
           rw [e] at e1; cases e1
           exact e2
 cases hk : K.lookup a with
 | some o =>
   -- the script is one of the module's own objects
   have e := KX a o hk
   rw [ha] at e
   cases e
   refine core (fun _ => none) (fun _ => .inl rfl) (.inr ⟨_, vs.toArray, _, hk, rfl, rfl, rfl, by rw [List.size_toArray, lenV]; exact hl, by simpa using rv⟩) (fun b u z => by have z' : (none : Option HO) = some u := z; cases z') (fun b z => absurd rfl z) fun z => absurd rfl z
 | none =>
   refine core (fun b => if b = a then some (.frz { cls := .type "list", data := .seq vs.toArray } (.lst (ns.map V.int))) else none) (fun b => ?_) (.inl (.inr ⟨{ cls := .type "list", data := .seq vs.toArray }, if_pos rfl⟩)) (fun b u z => ?_) (fun b z => ?_) fun _ => hk
   · by_cases hb : b = a
     · exact .inr ⟨_, _, if_pos hb⟩
     · exact .inl (if_neg hb)
   · by_cases hb : b = a
     · have z' := (if_pos hb).symm.trans z
       cases z'
       subst hb
       exact ⟨ha, by rw [List.length_map]; exact hl, vs, _, rv, ha⟩
     · have z' := (if_neg hb).symm.trans z
       cases z'
   · by_cases hb : b = a
     · exact hb
     · exact absurd (if_neg hb) z
end L2
namespace L2
open PySem PySem.Spec PyProof.Rows
theorem walk_of {l : PySem.W.OpenLaw} {n k : Nat} {q : Program} {loose : List Str} {XP : (Str → Option Value) → Heap → Prop} {YP : World → Heap → Prop} {d : DefRec} {K : Params → PySem.W.Frag} {CX : World → CXT} {sp : World → Sp} {x : Str}
   (hn : l.most = some n) (hn2 : n ≤ sizeLine) (hdf : d.params.defaults = []) (hr : Room k callerA)
   (hY : ∀ (w : World) (h : Heap), YP w h → (K w.params).In h)
   (F : ∀ (w : World) (mg : Str → Option Value) (fa : Addr) (h : Heap), (K w.params).In h → h.Ns mainGlobals mg → mg d.name = some (.ref fa) →
     ∃ fd : FuncData, (∀ (s : Shared) (u : Value), BindsTo s fd ⟨[u], []⟩ [(x, u)]) ∧
       ∀ base : Heap, (K w.params).In base → base.Ns mainGlobals mg → FnOk l.prog w (K w.params) mg base (CX w) k fa fd [x] (sp w))
   (hsp : ∀ (w : World) (H : Hp) (a : Addr) (ns : List Int), ns.length ≤ n → Only H → SqL (K w.params) H a (ns.map V.int) → sp w [.ref a] H (fun v _ => v = .bl true) fun _ _ _ => False)
   (hCX : ∀ (w : World) (H : Hp) (s : Shared) (e : Value) (s' : Shared), CX w [] H s (fun _ _ _ => False) e s' → False) :
   PySem.W.WalkO q loose XP YP l.row.toRowW d [] (fun f vs => PySem.call f vs) := by
 refine Att.attach_call hn hdf fun w s₀ s₁ mg mb fa o pm cd doc a vs ns G Y ho hd hcd hmg hobj hints hlen hg => ?_
 have KX := hY w _ Y
 obtain ⟨fd, hb, hF⟩ := F w mg fa _ KX G.T.g hmg
 exact law_call KX G.T.g G.T.b G.T.builtins G.T.nolimit hg hobj hints (Nat.le_trans hlen hn2) hr hF hb (fun H hO hS => hsp w H a ns hlen hO hS) fun H e s' => hCX w H s₁ e s'
end L2
namespace L2
open PySem PySem.Spec PyProof.Rows
def defArgs (s : Stmt) : Arguments := match s with
 | .FunctionDef _ a _ _ _ _ _ _ _ _ => a
 | _ => { posonlyargs := [], args := [], vararg := none, kwonlyargs := [], kw_defaults := [], kwarg := none, defaults := [] }
def defBody (s : Stmt) : List Stmt := match s with
 | .FunctionDef _ _ b _ _ _ _ _ _ _ => b
 | _ => []
def defScope (s : Stmt) : Scope := match s with
 | .FunctionDef _ _ _ _ _ _ sc _ _ _ => sc
 | _ => { kind := .function, names := [], isGenerator := false, isCoroutine := false }
abbrev CX0 : CXT := fun _ _ _ _ _ _ => False
abbrev E0 : XK := fun _ _ _ => False
theorem pass0 {X : Cx} : Passes CX0 X E0 := fun _ _ _ _ _ _ _ h => h.elim
structure Fun (K : PySem.W.Frag) (x qual : Str) (st : Stmt) (f : Addr) (fd : FuncData) : Prop where
 ex : ∃ (oc : Value) (od : Option Addr) (kV doc pm : Value) (an : Option Addr) (cdv ct : Value) (osl : Array (Option Value)),
   fd = PySem.W.fnOf x qual (defArgs st) (defBody st) (defScope st) .none kV doc pm an cdv ct ∧ K.lookup f = some ⟨oc, od, .func fd, osl⟩ ∧ PySem.W.codeIn K cdv qual = true
 kp : PySem.W.keepIn K (.ref f) = true
section
variable {P : Program} {w : World} {K : PySem.W.Frag} {mg : Str → Option Value} {base : Heap}
theorem Fun.ok {x qual : Str} {st : Stmt} {f : Addr} {fd : FuncData} {N ps : List Str} {k : Nat} {sp : Sp} (F : Fun K x qual st f fd) (S : FnScope N ps (defScope st)) (len : ∀ vs H Q E, sp vs H Q E → vs.length = ps.length)
   (hbody : ∀ (cdv : Value) (A : Around) (outer : List Env) (s : Shared) (H : Hp) (vs : List V) (Q : VK) (E : XK), Room k (A.deeper (envOfC qual (defScope st) s.heap.objs.size f cdv)) → sp vs H Q E →
     ∃ t, PSs (cxOf CX0 P w K mg base N qual (defScope st) f cdv A outer s H E).nox (defBody st) t ∧ t { nx := fun _ H' => Q .non H', rt := Q } (start N vs) H) : FnOk P w K mg base CX0 (k + 1) f fd ps sp := by
 obtain ⟨oc, od, kV, doc, pm, an, cdv, ct, osl, rfl, lk, hcd⟩ := F.ex
 refine fn_of lk hcd S len fun A outer s H vs Q E hr hsp => ?_
 obtain ⟨t, h, q⟩ := hbody cdv A outer s H vs Q E hr hsp
 exact ⟨t, h.nox, q⟩
theorem Fun.binds {x qual : Str} {st : Stmt} {f : Addr} {fd : FuncData} {ps : List Str} (F : Fun K x qual st f fd)
   (h : ∀ (kV doc pm : Value) (an : Option Addr) (cdv ct : Value) (us : List Value), us.length = ps.length → bindArgs (PySem.W.fnOf x qual (defArgs st) (defBody st) (defScope st) .none kV doc pm an cdv ct) ⟨us, []⟩ = pure (ps.zip us)) : Binds K fd ps [] := by
 obtain ⟨oc, od, kV, doc, pm, an, cdv, ct, osl, rfl, lk, hcd⟩ := F.ex
 exact .all (h kV doc pm an cdv ct)
theorem fun_mk {x qual : Str} {st : Stmt} {f : Addr} {oc : Value} {od an : Option Addr} {osl : Array (Option Value)} {kV doc pm cdv ct : Value} (l : K.lookup f = some ⟨oc, od, .func (PySem.W.fnOf x qual (defArgs st) (defBody st) (defScope st) .none kV doc pm an cdv ct), osl⟩)
   (c : PySem.W.codeIn K cdv qual = true) (k : PySem.W.keepIn K (.ref f) = true) : Fun K x qual st f (PySem.W.fnOf x qual (defArgs st) (defBody st) (defScope st) .none kV doc pm an cdv ct) := ⟨⟨oc, od, kV, doc, pm, an, cdv, ct, osl, rfl, l, c⟩, k⟩
end
theorem hu_of {A : Around} {k : Nat} (hr : Room k A) : A.units + 1 < cLine := Nat.lt_of_le_of_lt (Nat.add_le_add_left (by decide : 1 ≤ 64) _) hr.units
theorem iteF {A B : Prop} (h : B) : if false = true then A else B := by
 rw [if_neg Bool.false_ne_true]
 exact h
theorem ite2 {c A B : Prop} [Decidable c] (h1 : c → A) (h2 : ¬ c → B) : if c then A else B := by
 by_cases h : c
 · rw [if_pos h]
   exact h1 h
 · rw [if_neg h]
   exact h2 h
def Same (H H' : Hp) : Prop := ∀ b o, H b = some o → H' b = some o
theorem Same.refl (H : Hp) : Same H H := fun _ _ h => h
theorem Same.trans {H H1 H2 : Hp} (a : Same H H1) (b : Same H1 H2) : Same H H2 := fun c o h => b c o (a c o h)
theorem Same.free {H H' : Hp} (e : Same H H') {l : Addr} (h : H' l = Option.none) : H l = Option.none := by
 cases q : H l with
 | none => rfl
 | some o =>
   rw [e l o q] at h
   cases h
theorem Same.seq {K : PySem.W.Frag} {H H' : Hp} {a : Addr} {xs : List V} (e : Same H H') (h : SqL K H a xs) : SqL K H' a xs := by
 rcases h with (h | ⟨o, h⟩) | h
 · exact .inl (.inl (e _ _ h))
 · exact .inl (.inr ⟨o, e _ _ h⟩)
 · exact .inr h
end L2
set_option maxHeartbeats 4000000
namespace L3
open PySem PySem.Spec
open PyProof.Rows hiding St
open L2
theorem forIn_pure {α β : Type} {l : List α} {f : α → β → Sem (ForInStep β)} (g : α → β → β) : ∀ (c : β), (∀ x ∈ l, ∀ c, f x c = pure (.yield (g x c))) → forIn l c f = pure (l.foldl (fun c x => g x c) c) := by
 induction l with
 | nil => intro c _; rfl
 | cons x l ih =>
   intro c h
   rw [List.forIn_cons, h x List.mem_cons_self, pure_bind]
   exact ih (g x c) fun y hy => h y (List.mem_cons_of_mem _ hy)
def clOf (ns : List (Str × NameKind)) (env : Env) : List (Str × Addr) := ns.foldl (fun cs x => if x.2 == .free then (x.1, (env.cells.lookup x.1).getD 0) :: cs else cs) []
theorem closure_ok {scope : Scope} {env : Env} (h : ∀ p ∈ scope.names, p.2 = .free → ∃ c, env.cells.lookup p.1 = some c) : closureFor scope env = pure (clOf scope.names env) := by
 simp only [closureFor]
 unfold clOf
 rw [forIn_pure (fun (x : Str × NameKind) (cs : List (Str × Addr)) => if x.2 == .free then (x.1, (env.cells.lookup x.1).getD 0) :: cs else cs)]
 · rfl
 · intro x hx c
   obtain ⟨n, k⟩ := x
   dsimp only
   by_cases hk : k = .free
   · subst hk
     obtain ⟨a, ha⟩ := h _ hx rfl
     have ha' : env.cells.lookup n = some a := ha
     simp only [beq_self_eq_true, if_true, cellOf, ha', pure_bind, Option.getD_some]
   · have hb : (k == NameKind.free) = false := by simpa using hk
     simp only [hb, Bool.false_eq_true, if_false]
theorem cl_fold {env : Env} {x : Str} : ∀ (ns : List (Str × NameKind)) (acc : List (Str × Addr)) (c : Addr),
   (ns.foldl (fun cs y => if y.2 == .free then (y.1, (env.cells.lookup y.1).getD 0) :: cs else cs) acc).lookup x = some c → acc.lookup x = some c ∨ ((x, NameKind.free) ∈ ns ∧ c = (env.cells.lookup x).getD 0) := by
 intro ns
 induction ns with
 | nil => intro acc c h; exact .inl h
 | cons y r ih =>
   intro acc c h
   obtain ⟨n, k⟩ := y
   rw [List.foldl_cons] at h
   rcases ih _ c h with h1 | ⟨h1, h2⟩
   · by_cases hk : k = .free
     · subst hk
       simp only [beq_self_eq_true, if_true] at h1
       by_cases hx : x = n
       · subst hx
         rw [List.lookup_cons_self] at h1
         cases h1
         exact .inr ⟨List.mem_cons_self, rfl⟩
       · have hb : (x == n) = false := by simpa using hx
         rw [List.lookup_cons, hb] at h1
         exact .inl h1
     · have hb : (k == NameKind.free) = false := by simpa using hk
       simp only [hb, Bool.false_eq_true, if_false] at h1
       exact .inl h1
   · exact .inr ⟨List.mem_cons_of_mem _ h1, h2⟩
theorem cl_fold_has {env : Env} {x : Str} : ∀ (ns : List (Str × NameKind)) (acc : List (Str × Addr)), (acc.lookup x).isSome = true ∨ (x, NameKind.free) ∈ ns →
   ((ns.foldl (fun cs y => if y.2 == .free then (y.1, (env.cells.lookup y.1).getD 0) :: cs else cs) acc).lookup x).isSome = true := by
 intro ns
 induction ns with
 | nil => intro acc h; rcases h with h | h
          · exact h
          · exact absurd h (by simp)
 | cons y r ih =>
   intro acc h
   obtain ⟨n, k⟩ := y
   rw [List.foldl_cons]
   refine ih _ ?_
   by_cases hk : k = .free
   · subst hk
     simp only [beq_self_eq_true, if_true]
     by_cases hx : x = n
     · subst hx
       left
       rw [List.lookup_cons_self]
       rfl
     · have hb : (x == n) = false := by simpa using hx
       rw [List.lookup_cons, hb]
       rcases h with h | h
       · exact .inl h
       · rcases List.mem_cons.mp h with z | z
         · injection z with z1 _
           exact absurd z1 hx
         · exact .inr z
   · have hb : (k == NameKind.free) = false := by simpa using hk
     simp only [hb, Bool.false_eq_true, if_false]
     rcases h with h | h
     · exact .inl h
     · rcases List.mem_cons.mp h with z | z
       · injection z with _ z2
         exact absurd z2.symm hk
       · exact .inr z
theorem cl_of {ns : List (Str × NameKind)} {env : Env} {x : Str} {c : Addr} (h : (clOf ns env).lookup x = some c) : (x, NameKind.free) ∈ ns ∧ c = (env.cells.lookup x).getD 0 := by
 rcases cl_fold ns [] c h with z | z
 · cases z
 · exact z
theorem cl_has {ns : List (Str × NameKind)} {env : Env} {x : Str} {c : Addr} (h : (x, NameKind.free) ∈ ns) (e : env.cells.lookup x = some c) : (clOf ns env).lookup x = some c := by
 obtain ⟨d, hd⟩ := Option.isSome_iff_exists.mp (cl_fold_has (env := env) ns [] (.inr h))
 have hd' : (clOf ns env).lookup x = some d := hd
 rw [hd', (cl_of hd').2, e]
 rfl
theorem lookup_relabel {env : Env} {x : Str} : ∀ (names : List (Str × NameKind)),
   (names.map fun (n, k) => if (k == NameKind.free && env.scope.kind == .function && env.kindOf n == some .cell) then (n, NameKind.cell) else (n, k)).lookup x =
     (names.lookup x).map fun k => if (k == NameKind.free && env.scope.kind == .function && env.kindOf x == some .cell) then NameKind.cell else k
 | [] => rfl
 | (n, k) :: r => by
   have ih := lookup_relabel (env := env) (x := x) r
   show List.lookup x ((if (k == NameKind.free && env.scope.kind == .function && env.kindOf n == some .cell) = true then (n, NameKind.cell) else (n, k)) :: _) = _
   by_cases hx : x = n
   · subst hx
     by_cases hc : (k == NameKind.free && env.scope.kind == .function && env.kindOf x == some .cell) = true
     · rw [if_pos hc, List.lookup_cons_self, List.lookup_cons_self, Option.map_some, if_pos hc]
     · rw [if_neg hc, List.lookup_cons_self, List.lookup_cons_self, Option.map_some, if_neg hc]
   · have hb : (x == n) = false := by simpa using hx
     by_cases hc : (k == NameKind.free && env.scope.kind == .function && env.kindOf n == some .cell) = true
     · rw [if_pos hc, List.lookup_cons, hb, List.lookup_cons, hb]; exact ih
     · rw [if_neg hc, List.lookup_cons, hb, List.lookup_cons, hb]; exact ih
theorem cf_ok {x : Str} {c : Addr} : ∀ (names : List (Str × NameKind)) (h : Heap) (acc : List (Str × Addr)), (cellsFrom h.objs.size names acc).lookup x = some c →
   acc.lookup x = some c ∨ ((x, NameKind.cell) ∈ names ∧ h.objs.size ≤ c ∧ (pushCells h names).IsCell c none)
 | [], _, _, e => .inl e
 | (n, k) :: r, h, acc, e => by
   unfold cellsFrom at e
   unfold pushCells
   by_cases hk : k = .cell
   · subst hk
     simp only [beq_self_eq_true, if_true] at e ⊢
     rw [← Heap.size_push h { cls := .type "cell", data := .cell none }] at e
     rcases cf_ok r _ _ e with z | ⟨z1, z2, z3⟩
     · by_cases hx : x = n
       · subst hx
         rw [List.lookup_cons_self] at z
         cases z
         exact .inr ⟨List.mem_cons_self, Nat.le_refl _, ⟨_, pushCells_keeps r _ _ _ (Heap.get?_push_size _ rfl), rfl⟩⟩
       · have hb : (x == n) = false := by simpa using hx
         rw [List.lookup_cons, hb] at z
         exact .inl z
     · rw [Heap.size_push] at z2
       exact .inr ⟨List.mem_cons_of_mem _ z1, by omega, z3⟩
   · have hb : (k == NameKind.cell) = false := by simpa using hk
     simp only [hb, Bool.false_eq_true, if_false] at e ⊢
     rcases cf_ok r h acc e with z | ⟨z1, z2, z3⟩
     · exact .inl z
     · exact .inr ⟨List.mem_cons_of_mem _ z1, z2, z3⟩
theorem cf_has {x : Str} : ∀ (names : List (Str × NameKind)) (n : Nat) (acc : List (Str × Addr)), (x, NameKind.cell) ∉ names → (cellsFrom n names acc).lookup x = acc.lookup x
 | [], _, _, _ => rfl
 | (y, k) :: r, n, acc, h => by
   have hr : (x, NameKind.cell) ∉ r := fun z => h (List.mem_cons_of_mem _ z)
   unfold cellsFrom
   by_cases hk : k = .cell
   · subst hk
     simp only [beq_self_eq_true, if_true]
     have hx : (x == y) = false := by
       have : x ≠ y := fun z => h (by rw [z]; exact List.mem_cons_self)
       simpa using this
     rw [cf_has r _ _ hr, List.lookup_cons, hx]
   · have hb : (k == NameKind.cell) = false := by simpa using hk
     simp only [hb, Bool.false_eq_true, if_false]
     exact cf_has r n acc hr
theorem cf_inj : ∀ (names : List (Str × NameKind)) (n : Nat) (acc : List (Str × Addr)), (∀ x c, acc.lookup x = some c → c < n) → (∀ x y c, acc.lookup x = some c → acc.lookup y = some c → x = y) →
   ∀ x y c, (cellsFrom n names acc).lookup x = some c → (cellsFrom n names acc).lookup y = some c → x = y
 | [], _, _, _, hi => hi
 | (a, k) :: r, n, acc, hb, hi => by
   unfold cellsFrom
   by_cases hk : k = .cell
   · subst hk
     simp only [beq_self_eq_true, if_true]
     have lk : ∀ x c, ((a, n) :: acc).lookup x = some c → (x = a ∧ c = n) ∨ (x ≠ a ∧ acc.lookup x = some c) := fun x c e => by
       by_cases hx : x = a
       · subst hx; rw [List.lookup_cons_self] at e; cases e; exact .inl ⟨rfl, rfl⟩
       · have hz : (x == a) = false := by simpa using hx
         rw [List.lookup_cons, hz] at e
         exact .inr ⟨hx, e⟩
     refine cf_inj r (n + 1) _ (fun x c e => ?_) fun x y c e1 e2 => ?_
     · rcases lk x c e with ⟨_, z⟩ | ⟨_, z⟩
       · rw [z]; exact Nat.lt_succ_self _
       · exact Nat.lt_succ_of_lt (hb x c z)
     · rcases lk x c e1 with ⟨z1, w1⟩ | ⟨z1, w1⟩ <;> rcases lk y c e2 with ⟨z2, w2⟩ | ⟨z2, w2⟩
       · rw [z1, z2]
       · exact absurd (hb y c w2) (by rw [w1]; exact Nat.lt_irrefl _)
       · exact absurd (hb x c w1) (by rw [w2]; exact Nat.lt_irrefl _)
       · exact hi x y c w1 w2
   · have hz : (k == NameKind.cell) = false := by simpa using hk
     simp only [hz, Bool.false_eq_true, if_false]
     exact cf_inj r n acc hb hi
theorem new_env_cl {M : Model} {A : Around} {E : Value → Shared → Prop} {s : Shared} {scope : Scope} {globals : Addr} {cl : List (Str × Addr)} {qual : Str} {code : Value} {env : Env} {builtins : Addr} {Q : Env → Shared → Prop}
   (h : ∀ h', h'.Ns s.heap.objs.size (fun _ => none) → (∀ b o, s.heap.get? b = some o → h'.get? b = some o) → (∀ x c, (cellsFrom (s.heap.objs.size + 1) scope.names cl).lookup x = some c → cl.lookup x = some c ∨ ((x, NameKind.cell) ∈ scope.names ∧ s.heap.objs.size + 1 ≤ c ∧ h'.IsCell c none)) →
     Q (newEnv scope s.heap.objs.size globals (cellsFrom (s.heap.objs.size + 1) scope.names cl) qual none code (some env) builtins) { s with heap := h' }) :
   wpAny M A (newFunctionEnv scope globals cl [] qual none code (some env) builtins) Q E s := by
 simp only [newFunctionEnv, Option.isSome_some, if_true]
 refine wpAny_bind (wpAny_alloc ?_)
 refine wpAny_bind (wpAny_layCells _ (fun name kind cells => by cases hkc : kind == NameKind.cell <;> simp [hkc]) _ _ _ _ ?_)
 rw [show ({ s with heap := s.heap.push { cls := .type "dict", data := .dict #[] } } : Shared).heap.objs.size = s.heap.objs.size + 1 from Heap.size_push ..]
 rw [List.forIn_nil]
 refine wpAny_bind (wpAny_pure (wpAny_pure (h _ ((Heap.Ns.new s.heap (.type "dict")).keeps (pushCells_keeps _ _)) (fun b o e => pushCells_keeps _ _ b o (Heap.get?_push_of_some _ e)) fun x c e => ?_)))
 have := cf_ok scope.names (s.heap.push { cls := .type "dict", data := .dict #[] }) cl (x := x) (c := c) (by rw [Heap.size_push]; exact e)
 rwa [Heap.size_push] at this
def compCx (X : Cx) (scope : Scope) (N' : List Str) (C : Addr) (s : Shared) (H : Hp) (ex : List Addr) : Cx :=
 { X with N := N', s₀ := s, H₀ := H, env := compEnvC scope (cellsFrom (C + 1) scope.names (clOf scope.names X.env)) C X.env, outer := X.stack, stack := X.stack, ex := ex, fn := fun x => scope.names.lookup x == some .cell, pn := [], xe := fun _ _ => False }
def scopeOk (h : Nat) (N' N : List Str) (names sc : List (Str × NameKind)) : Bool :=
 decide (N'.length = h + N.length) && decide N'.Nodup
 && (names.all fun p => (p.2 != .cell || names.lookup p.1 == some .cell) && (p.2 != .local || names.lookup p.1 == some .local) && (p.2 != .free || (names.lookup p.1 == some .free && (sc.lookup p.1 == some .cell || sc.lookup p.1 == some .free))))
 && (((N'.drop h).zip N).all fun p => match names.lookup p.1 with | some .free => p.1 == p.2 | some .local => false | some .cell => false | _ => true)
structure ScopeOk (h : Nat) (N' N : List Str) (scope : Scope) (sc : Scope) : Prop where
 kind : scope.kind = .function
 len : N'.length = h + N.length
 nd : N'.Nodup
 cell : ∀ y ∈ scope.names, y.2 = .cell → scope.names.lookup y.1 = some .cell
 loc : ∀ y ∈ scope.names, y.2 = .local → scope.names.lookup y.1 = some .local
 free : ∀ y ∈ scope.names, y.2 = .free → scope.names.lookup y.1 = some .free ∧ (sc.names.lookup y.1 = some .cell ∨ sc.names.lookup y.1 = some .free)
 out : ∀ (i : Nat) (x : Str) (k : NameKind), N'[h + i]? = some x → scope.names.lookup x = some k → (k = .local ∨ k = .cell ∨ k = .free) → N[i]? = some x ∧ k = .free
theorem ScopeOk.of {h : Nat} {N' N : List Str} {scope sc : Scope} (hk : scope.kind = .function) (e : scopeOk h N' N scope.names sc.names = true) : ScopeOk h N' N scope sc := by
 unfold scopeOk at e
 simp only [Bool.and_eq_true, decide_eq_true_eq, List.all_eq_true] at e
 obtain ⟨⟨⟨e1, e2⟩, e3⟩, e4⟩ := e
 refine ⟨hk, e1, e2, fun y hy z => ?_, fun y hy z => ?_, fun y hy z => ?_, fun i x k hx hl hkk => ?_⟩
 · have := e3 y hy
   rw [z] at this
   simpa using this
 · have := e3 y hy
   rw [z] at this
   simpa using this
 · have := e3 y hy
   rw [z] at this
   simpa using this
 · have h1 : (N'.drop h)[i]? = some x := by rw [List.getElem?_drop]; exact hx
   have hi : i < N.length := by
     obtain ⟨z, _⟩ := List.getElem?_eq_some_iff.mp hx
     omega
   have h2 : N[i]? = some N[i] := List.getElem?_eq_getElem hi
   have hm : (x, N[i]) ∈ (N'.drop h).zip N := by
     refine List.mem_of_getElem? (i := i) ?_
     rw [List.getElem?_zip_eq_some]
     exact ⟨h1, h2⟩
   have q := e4 _ hm
   rw [hl] at q
   rcases hkk with rfl | rfl | rfl
   · exact absurd q (by simp)
   · exact absurd q (by simp)
   · have q' : x = N[i] := by simpa using q
     exact ⟨by rw [h2, ← q'], rfl⟩
def PF (X : Cx) (ifs : List Expr) (t : TT) : Prop :=
 ∀ (pins : List (Addr × Obj)) (s : Shared) (σ : St) (H : Hp) (Q : Bool → Hp → Prop), Inv X pins σ H s → t σ H Q →
   wpAny (model X.prog X.w) X.A (forIn ifs true fun c r => if r = true then do let ok ← isTrue c X.env (eval c X.env); pure (ForInStep.yield ok) else pure (ForInStep.yield r)) (TP X pins σ Q) X.xe s
def tYes : TT := fun _ H Q => Q true H
theorem pf_nil {X : Cx} : PF X [] tYes := fun _ _ _ H _ I h => wpAny_tests_nil ⟨H, I, h⟩
theorem pf_one {X : Cx} {c : Expr} {t : TT} (h : PT X c t) : PF X [c] t := fun pins s σ H Q I q => wpAny_tests_one (h pins s σ H Q I q)
def OwnG (h : Nat) (g : TG) : Prop := ∀ v (σ : St) H Q, h ≤ σ.length → g v σ H Q → g v σ H fun σ2 H2 => Q σ2 H2 ∧ σ2.length = σ.length ∧ σ2.drop h = σ.drop h
theorem own_name {h i : Nat} (hi : i < h) : OwnG h (gName i) := fun v σ H Q hl q => ⟨q, by simp, by rw [List.drop_set_of_lt hi]⟩
def OwnGs (h : Nat) (g : TGs) : Prop := ∀ vs (σ : St) H Q, h ≤ σ.length → g vs σ H Q → g vs σ H fun σ2 H2 => Q σ2 H2 ∧ σ2.length = σ.length ∧ σ2.drop h = σ.drop h
theorem own_nil {h : Nat} : OwnGs h gNil := fun vs σ H Q _ q => ⟨q.1, q.2, rfl, rfl⟩
def MonG (g : TG) : Prop := ∀ v σ H (Q Q' : St → Hp → Prop), (∀ σ H, Q σ H → Q' σ H) → g v σ H Q → g v σ H Q'
def MonGs (g : TGs) : Prop := ∀ v σ H (Q Q' : St → Hp → Prop), (∀ σ H, Q σ H → Q' σ H) → g v σ H Q → g v σ H Q'
theorem mon_name {i : Nat} : MonG (gName i) := fun _ _ _ _ _ h q => h _ _ q
theorem mon_nil : MonGs gNil := fun _ _ _ _ _ h q => ⟨q.1, h _ _ q.2⟩
theorem mon_cons {g : TG} {gs : TGs} (a : MonG g) (b : MonGs gs) : MonGs (gCons g gs) := fun vs σ H Q Q' h ⟨v, r, e, q⟩ => ⟨v, r, e, a _ _ _ _ _ (fun σ' H' z => b _ _ _ _ _ h z) q⟩
theorem own_cons {h : Nat} {g : TG} {gs : TGs} (m : MonG g) (m2 : MonGs gs) (a : OwnG h g) (b : OwnGs h gs) : OwnGs h (gCons g gs) := fun vs σ H Q hl ⟨v, r, e, q⟩ => by
 refine ⟨v, r, e, m _ _ _ _ _ (fun σ' H' z => ?_) (a v σ H _ hl q)⟩
 obtain ⟨z1, z2, z3⟩ := z
 exact m2 _ _ _ _ _ (fun σ2 H2 ⟨y1, y2, y3⟩ => ⟨y1, y2.trans z2, y3.trans z3⟩) (b r σ' H' Q (by omega) z1)
theorem own_tup {K : PySem.W.Frag} {h n : Nat} {gs : TGs} (b : OwnGs h gs) : OwnG h (gTup K n gs) := fun v σ H Q hl ⟨a, xs, e1, e2, e3, q⟩ => ⟨a, xs, e1, e2, e3, b xs σ H Q hl q⟩
def tComp (h : Nat) (wi : TI) (g : TG) (tf : TT) (te : TE) : TE := fun σ H Q => wi σ H fun J H1 => ∀ D, H1 D = none → ∃ W : Nat → Nat → List V → Hp → Prop, (∃ m, W 0 m [] (upd H1 D (.lst []))) ∧ ∀ i m ys H, W i m ys H →
 H D = some (.lst ys) ∧ ((J.stop i H ∧ Q (.ref D) H) ∨ (J.go i H ∧ ∀ x H', J.yld i H x H' → g x (List.replicate h none ++ σ) H' fun σ2 H2 => tf σ2 H2 fun c H3 =>
   if c = true then te σ2 H3 fun y H4 => H4 D = some (.lst ys) ∧ ys.length < sizeLine ∧ ∃ m', m' < m ∧ W (i + 1) m' (ys ++ [y]) (upd H4 D (.lst (ys ++ [y]))) else ∃ m', m' < m ∧ W (i + 1) m' ys H3))
theorem compLoop_go {prog : Program} {w : World} {A : Around} {R : Result → Shared → Prop} {s : Shared} {elt target iter : Expr} {ifs : List Expr} {scope : Scope} {pos : Pos} {it acc : Value} {env : Env} (I : Nat → Shared → Prop)
   (turn : ∀ n s, I n s → wpAny (model prog w) A (pyNext it) (fun r s₁ => match r with
     | none => R (.ok .next) s₁
     | some v => wpAny (model prog w) A (letOwnedTupleGo target it v) (fun _ s₀ => wpAny (model prog w) A (assign target env v) (fun _ s₂ =>
         wpAny (model prog w) A (forIn ifs true fun c r => if r = true then do let ok ← isTrue c env (eval c env); pure (ForInStep.yield ok) else pure (ForInStep.yield r)) (fun ok s₃ =>
           if ok = true then wpAny (model prog w) A (eval elt env) (fun x s₄ =>
             wpAny (model prog w) A (call (.builtin "list.append") [acc, x]) (fun _ s₅ => ∃ m, m < n ∧ I m s₅) (fun _ _ => False) s₄) (fun _ _ => False) s₃
           else ∃ m, m < n ∧ I m s₃) (fun _ _ => False) s₂) (fun _ _ => False) s₀) (fun _ _ => False) s₁) (fun _ _ => False) s)
   (n : Nat) (h : I n s) : codeAny (model prog w) A (.compLoop (.ListComp elt [⟨target, iter, ifs, 0⟩] scope pos) 0 it acc env) R s := by
 refine codeAny_loop rfl I (fun n s hI => ?_) n h
 show wpAny _ A ((compTurn (.ListComp elt [⟨target, iter, ifs, 0⟩] scope pos) 0 it acc env).onRaise (fun x => do noteFrame x env; theTreesLotGoes x)) _ _ s
 refine wpAny_noted ?_
 rw [compTurn_list]
 refine wpAny_bind (wpAny_standAt (wpAny_bind (wpAny_mono (turn n s hI) (fun r s₁ h₁ => ?_) fun _ _ h' => h'.elim)))
 cases r with
 | none => exact wpAny_pure h₁
 | some v =>
   refine wpAny_bind (wpAny_mono h₁ (fun _ s₀ h₀ => ?_) fun _ _ h' => h'.elim)
   refine wpAny_bind (wpAny_mono h₀ (fun _ s₂ h₂ => wpAny_bind (wpAny_mono h₂ (fun ok s₃ h₃ => ?_) fun _ _ h' => h'.elim)) fun _ _ h' => h'.elim)
   cases ok with
   | false => exact wpAny_pure ⟨rfl, h₃⟩
   | true =>
     exact wpAny_bind (wpAny_bind (wpAny_mono h₃ (fun x s₄ h₄ => wpAny_bind (wpAny_mono h₄ (fun _ s₅ h₅ => wpAny_pure (wpAny_pure ⟨rfl, h₅⟩)) fun _ _ h' => h'.elim)) fun _ _ h' => h'.elim))
section
variable {X : Cx} {pins : List (Addr × Obj)} {σ : St} {H : Hp} {s : Shared}
theorem comp_cl {h : Nat} {N' : List Str} {scope : Scope} (I : Inv X pins σ H s) (S : ScopeOk h N' X.N scope X.env.scope) : ∀ x c, (clOf scope.names X.env).lookup x = some c → X.env.cells.lookup x = some c := fun x c e => by
 obtain ⟨h1, h2⟩ := cl_of e
 obtain ⟨d, hd⟩ := I.ok.has x (S.free _ h1 rfl).2
 rw [hd] at h2 ⊢
 rw [h2]; rfl
theorem comp_nf {h : Nat} {N' : List Str} {scope : Scope} (S : ScopeOk h N' X.N scope X.env.scope) {x : Str} (hf : (x, NameKind.free) ∈ scope.names) : (x, NameKind.cell) ∉ scope.names := fun z => by
 have a := (S.free _ hf rfl).1
 have b := S.cell _ z rfl
 rw [show scope.names.lookup x = some .free from a] at b
 cases b
theorem comp_cells {h : Nat} {N' : List Str} {scope : Scope} (I : Inv X pins σ H s) (S : ScopeOk h N' X.N scope X.env.scope) : ∀ x c, (cellsFrom (s.heap.objs.size + 1) scope.names (clOf scope.names X.env)).lookup x = some c → X.env.cells.lookup x = some c ∨ ((x, NameKind.cell) ∈ scope.names ∧ s.heap.objs.size + 1 ≤ c) := fun x c e => by
 have z := cf_ok scope.names (s.heap.push { cls := .type "dict", data := .dict #[] }) (clOf scope.names X.env) (x := x) (c := c) (by rw [Heap.size_push]; exact e)
 rw [Heap.size_push] at z
 rcases z with z | ⟨z1, z2, _⟩
 · exact .inl (comp_cl I S x c z)
 · exact .inr ⟨z1, z2⟩
theorem comp_below {h : Nat} {N' : List Str} {scope : Scope} (I : Inv X pins σ H s) (S : ScopeOk h N' X.N scope X.env.scope) : ∀ x c, (clOf scope.names X.env).lookup x = some c → c < s.heap.objs.size + 1 := fun x c e => by
 obtain ⟨v, o, ho, _⟩ := I.cell x c (comp_cl I S x c e)
 exact Nat.lt_succ_of_lt (Heap.lt_size ho)
theorem comp_ok {h : Nat} {N' : List Str} {scope : Scope} {fp : List Addr} (I : Inv X pins σ H s) (S : ScopeOk h N' X.N scope X.env.scope) (hf : ∀ b ∈ fp, FpOk X pins H b) (hlt : ∀ b ∈ fp, b < s.heap.objs.size) :
   (compCx X scope N' s.heap.objs.size s H fp).Ok := by
 have cl := comp_cells I S
 refine ⟨I.ok.mod, ?_, I.ok.glob, I.ok.blt, Nat.le_refl _, cf_inj _ _ _ (comp_below I S) fun x y c e1 e2 => I.ok.inj x y c (comp_cl I S x c e1) (comp_cl I S y c e2), fun x hx => ?_, fun x c z e => ?_, I.ok.hd, I.ok.frames, .inl rfl, fun b hb => ⟨Nat.ne_of_lt (hlt b hb), fun x c e => (cl x c e).elim (fun z => (hf b hb).2.2.2.2.1 x c z) fun z w => Nat.lt_irrefl _ (Nat.lt_of_lt_of_le (hlt b hb) (Nat.le_of_succ_le (w ▸ z.2)))⟩, fun b o e => I.bs b o e, Nat.le_trans I.ok.bsz I.sz, fun b o e hb => ?_, fun b hb z => ?_, I.stack, I.stkFree⟩
 · exact S.kind
 · have hx' : (relabel scope X.env).names.lookup x = some .cell ∨ (relabel scope X.env).names.lookup x = some .free := hx
   have e := lookup_relabel (env := X.env) (x := x) scope.names
   have hl : scope.names.lookup x = some .free ∨ scope.names.lookup x = some .cell := by
     cases q : scope.names.lookup x with
     | none => rw [q] at e; rcases hx' with z | z <;> (have z' := e.symm.trans z; cases z')
     | some k =>
       rw [q, Option.map_some] at e
       by_cases hk : k = .free
       · rw [hk]; exact .inl rfl
       · have hc : ¬ (k == NameKind.free && X.env.scope.kind == .function && X.env.kindOf x == some .cell) = true := by
           have : (k == NameKind.free) = false := by simpa using hk
           rw [this]; simp
         rw [if_neg hc] at e
         rcases hx' with z | z
         · have z' := e.symm.trans z
           cases z'
           exact .inr rfl
         · have z' := e.symm.trans z
           cases z'
           exact .inl rfl
   rcases hl with hl | hl
   · have hm := PySem.mem_of_lookup hl
     obtain ⟨c, hc⟩ := I.ok.has x (S.free _ hm rfl).2
     exact ⟨c, (cf_has _ _ _ (comp_nf S hm)).trans (cl_has hm hc)⟩
   · exact Option.isSome_iff_exists.mp (PySem.W.cellsFrom_some _ _ _ (.inl hl))
 · have z : (scope.names.lookup x == some NameKind.cell) = true := z
   have z : scope.names.lookup x = some .cell := by simpa using z
   rcases cf_ok scope.names (s.heap.push { cls := .type "dict", data := .dict #[] }) (clOf scope.names X.env) (x := x) (c := c) (by rw [Heap.size_push]; exact e) with w | ⟨_, w, _⟩
   · exact absurd (PySem.mem_of_lookup z) (comp_nf S (cl_of w).1)
   · rw [Heap.size_push] at w
     exact Nat.le_of_succ_le w
 · rcases (hf b hb).2.2.2.1 with z | z
   · exact I.ok.noex b o e z
   · exact absurd (Nat.lt_of_lt_of_le (Heap.lt_size (I.ok.bs b o e).1) z) (Nat.lt_irrefl _)
 · obtain ⟨_, f1, f2, _⟩ := hf b hb
   rcases List.mem_cons.mp (I.stkSub b z) with q | q
   · exact f1 q
   · exact f2 q
theorem comp_start {h : Nat} {N' : List Str} {scope : Scope} {fp : List Addr} {h' : Heap} {tk : Nat} (I : Inv X pins σ H s) (S : ScopeOk h N' X.N scope X.env.scope) (hf : ∀ b ∈ fp, FpOk X pins H b) (hlt : ∀ b ∈ fp, b < s.heap.objs.size)
   (hn : h'.Ns s.heap.objs.size fun _ => none) (kp : ∀ b o, s.heap.get? b = some o → h'.get? b = some o) (hcs : ∀ x c, (cellsFrom (s.heap.objs.size + 1) scope.names (clOf scope.names X.env)).lookup x = some c → (clOf scope.names X.env).lookup x = some c ∨ ((x, NameKind.cell) ∈ scope.names ∧ s.heap.objs.size + 1 ≤ c ∧ h'.IsCell c none)) :
   Inv (compCx X scope N' s.heap.objs.size s H fp) [] (List.replicate h none ++ σ) H { s with heap := h', toks := tk } := by
 have ok := comp_ok I S hf hlt
 have cl := comp_cl I S
 refine ⟨ok, rfl, I.bare, Un.kept kp, ⟨_, hn, fun i x v e1 e2 e3 => ?_⟩, fun x c e => ?_, I.hok.fresh (Nat.le_refl _), fun x c e => (hcs x c e).elim (fun z => I.freeC x c (cl x c z)) fun z => I.hok.fresh (Nat.le_of_succ_le z.2.1), fun p hp => absurd (show p ∈ ([] : List (Addr × Obj)) from hp) (by simp), I.hok.kept kp, ?_⟩
 · have e1 : N'[i]? = some x := e1
   by_cases hi : i < h
   · rw [List.getElem?_append_left (by simpa using hi), List.getElem?_replicate, if_pos hi] at e2
     cases e2
   · obtain ⟨j, rfl⟩ : ∃ j, i = h + j := ⟨i - h, by omega⟩
     rw [List.getElem?_append_right (by simp), List.length_replicate, Nat.add_sub_cancel_left] at e2
     have e3 : Vis (relabel scope X.env) x := e3
     have er := lookup_relabel (env := X.env) (x := x) scope.names
     have hl : ∃ k, scope.names.lookup x = some k ∧ (k = .local ∨ k = .cell ∨ k = .free) ∧ (relabel scope X.env).names.lookup x = some (if (k == NameKind.free && X.env.scope.kind == .function && X.env.kindOf x == some .cell) then NameKind.cell else k) := by
       cases q : scope.names.lookup x with
       | none => rw [q] at er; rcases e3 with z | z | z <;> (have z' := er.symm.trans z; cases z')
       | some k =>
         rw [q, Option.map_some] at er
         refine ⟨k, rfl, ?_, er⟩
         by_cases hc : (k == NameKind.free && X.env.scope.kind == .function && X.env.kindOf x == some .cell) = true
         · simp only [Bool.and_eq_true, beq_iff_eq] at hc
           exact .inr (.inr hc.1.1)
         · rw [if_neg hc] at er
           rcases e3 with z | z | z <;> (have z' := er.symm.trans z; cases z'; simp)
     obtain ⟨k, hk, hkk, hre⟩ := hl
     obtain ⟨hN, rfl⟩ := S.out j x k e1 hk hkk
     have hm := PySem.mem_of_lookup hk
     have hfr := (S.free _ hm rfl).2
     obtain ⟨m, hnm, hlk⟩ := I.loc
     obtain ⟨u, ru, lk⟩ := hlk j x v hN e2 (by rcases hfr with z | z; exact .inr (.inl z); exact .inr (.inr z))
     refine ⟨u, ru, ?_⟩
     rcases lk with ⟨hloc, _⟩ | ⟨hkd, c, hc, hcell⟩
     · have hloc : X.env.scope.names.lookup x = some .local := hloc
       rcases hfr with z | z <;> (rw [hloc] at z; cases z)
     · refine .inr ⟨?_, c, (cf_has _ _ _ (comp_nf S hm)).trans (cl_has hm hc), ?_⟩
       · show (relabel scope X.env).names.lookup x = some .cell ∨ (relabel scope X.env).names.lookup x = some .free
         rw [hre]
         split
         · exact .inl rfl
         · exact .inr rfl
       · obtain ⟨o, ho, hd⟩ := hcell
         exact ⟨o, kp c o ho, hd⟩
 · rcases hcs x c e with z | z
   · obtain ⟨v, o, ho, hd⟩ := I.cell x c (cl x c z)
     exact ⟨v, o, kp c o ho, hd⟩
   · exact ⟨_, z.2.2⟩
 · show (List.replicate h none ++ σ).length = N'.length
   rw [List.length_append, List.length_replicate, S.len, I.len]
theorem comp_end {h : Nat} {N' : List Str} {scope : Scope} {fp : List Addr} {pins' : List (Addr × Obj)} {σ' : St} {H' : Hp} {s' : Shared} {h' : Heap} (I : Inv X pins σ H s) (S : ScopeOk h N' X.N scope X.env.scope) (hf : ∀ b ∈ fp, FpOk X pins H b)
   (J : Inv (compCx X scope N' s.heap.objs.size s H fp) pins' σ' H' s') (hs : Heap.SameBut s.heap.objs.size s'.heap h') : Inv X pins σ H' { s' with heap := h' } := by
 have ne : ∀ b o, s.heap.get? b = some o → b ≠ s.heap.objs.size := fun b o e => Nat.ne_of_lt (Heap.lt_size e)
 have u : Un (frs X.stack) fp H H' s.heap s'.heap := J.base
 have hC : H' s.heap.objs.size = none := J.free
 obtain ⟨m0, ⟨oC, _, _, hoC, _⟩, _⟩ := id J.loc
 refine I.call' (s' := { s' with heap := h' }) (ch := fp) J.os ⟨fun b o e n hb hx => (hs.2 b (ne b o e)).trans (u.keep b o e n hb hx), fun b o e n hb hx => ?_, u.free, fun b o e hx => ?_, u.tups, u.frzs, u.tbls⟩ (fun b ob e => ?_) J.bare fun b hb => ?_
 · obtain ⟨sl, z⟩ := u.slot b o e n hb hx
   exact ⟨sl, (hs.2 b (ne b o e)).trans z⟩
 · obtain ⟨o', z⟩ := u.there b o e hx
   exact ⟨o', (hs.2 b (ne b o e)).trans z⟩
 · refine (J.hok b ob e).stay (fun c w' hc q => (hs.2 c ?_).trans q) (fun _ q => q) fun _ _ q => q
   rintro rfl
   rcases hc with z | z
   · rw [← z, hC] at e; cases e
   · rw [hC] at z; cases z
 · obtain ⟨_, f1, _, f3, f4, f5⟩ := hf b hb
   exact ⟨f3, f1, f4, f5⟩
end
theorem pe_comp {X : Cx} {elt tg iter : Expr} {ifs : List Expr} {scope : Scope} {pos : Pos} {wi : TI} {g : TG} {tf : TT} {te : TE} {N' : List Str} (h : Nat) (S : ScopeOk h N' X.N scope X.env.scope) (hc : X.calm = true) (hi : PI X tg iter wi)
   (hg : ∀ C s H ex, PG (compCx X scope N' C s H ex) tg g) (ho : OwnG h g) (ht : ∀ C s H ex, PF (compCx X scope N' C s H ex) ifs tf) (he : ∀ C s H ex, PE (compCx X scope N' C s H ex) elt te)
   (hs : ∀ x, foldedSetIterable iter X.env x = pure x := by intro _; rfl) :
   PE X (.ListComp elt [⟨tg, iter, ifs, 0⟩] scope pos) (tComp h wi g tf te) := by
 intro pins s σ H Q I hq
 rw [eval_ListComp]
 refine wpAny_comprehension_free (use := none) rfl hs (closure_ok (env := X.env) fun p hp hk => I.ok.has p.1 (S.free p hp hk).2) S.kind S.loc ?_
 refine thn (hi pins s σ H _ I hq) fun v s1 h1 => thn h1 fun itv s2 h2 => ?_
 obtain ⟨it, fp, tn, J, H2, rfl, I2, T, st2, f2, hq⟩ := h2
 refine wpAny_newObj_type ?_ (by show 0 ≤ sizeLine; exact Nat.zero_le _)
 have hD : H2 s2.heap.objs.size = none := I2.hok.fresh (Nat.le_refl _)
 have I3 : Inv X pins σ (upd H2 s2.heap.objs.size (.lst [])) { s2 with heap := s2.heap.push { cls := .type "list", data := .seq ([] : List Value).toArray }, toks := s2.toks } := I2.lnew (t' := s2.toks) .nil (Nat.zero_le _)
 generalize hs3 : ({ s2 with heap := s2.heap.push { cls := .type "list", data := .seq ([] : List Value).toArray }, toks := s2.toks } : Shared) = s3 at I3
 have hs3' : ({ s2 with heap := s2.heap.push { cls := .type "list", data := .seq ([] : List Value).toArray } } : Shared) = s3 := hs3
 obtain ⟨W, ⟨m0, w0⟩, turn⟩ := hq s2.heap.objs.size hD
 have olt : ∀ b ∈ fp, b < s2.heap.objs.size := fun b hb => by
   obtain ⟨o, e, _⟩ := T.obj _ _ st2 b hb
   exact Heap.lt_size e
 have hsz : s3.heap.objs.size = s2.heap.objs.size + 1 := by rw [← hs3]; exact Heap.size_push ..
 have k23 : ∀ b o, s2.heap.get? b = some o → s3.heap.get? b = some o := fun b o e => by rw [← hs3]; exact Heap.get?_push_of_some _ e
 have f3 : ∀ b ∈ fp, FpOk X pins (upd H2 s2.heap.objs.size (.lst [])) b := fun b hb => ⟨by rw [upd_ne (Nat.ne_of_lt (olt b hb))]; exact (f2 b hb).1, (f2 b hb).2⟩
 have lt3 : ∀ b ∈ fp, b < s3.heap.objs.size := fun b hb => by rw [hsz]; exact Nat.lt_succ_of_lt (olt b hb)
 refine new_env_cl fun h4 hn4 k34 cs4 => ?_
 have I4 := comp_start (h' := h4) (tk := s3.toks) I3 S f3 lt3 hn4 k34 cs4
 have st4 : tn 0 h4 := T.keep _ _ _ st2 fun b hb o e => k34 b o (k23 b o e)
 generalize hX : compCx X scope N' s3.heap.objs.size s3 (upd H2 s2.heap.objs.size (.lst [])) fp = X' at I4
 have hA : X'.A = X.A := by rw [← hX]; rfl
 -- the iterator's objects, in the block
 have fpX : ∀ {H' : Hp} {pl : List (Addr × Obj)}, (∀ b ∈ fp, H' b = none) → pl = [] → ∀ b ∈ fp, FpOk X' pl H' b := fun {H' pl} hn0 hpl b hb => by
   subst hpl
   obtain ⟨q0, q1, q2, q3, q4, q5⟩ := f3 b hb
   subst hX
   refine ⟨hn0 b hb, Nat.ne_of_lt (lt3 b hb), fun z => ?_, .inl hb, fun x c e => (comp_cells I3 S x c e).elim (q4 x c) fun z w => Nat.lt_irrefl _ (Nat.lt_of_lt_of_le (lt3 b hb) (Nat.le_of_succ_le (w ▸ z.2))), fun p hp => absurd (show p ∈ ([] : List (Addr × Obj)) from hp) (by simp)⟩
   rcases List.mem_cons.mp (I3.stkSub b z) with z | z
   · exact q1 z
   · exact q2 z
 have hcX : X'.calm = true := by rw [← hX]; exact hc
 have hR : ∀ s' : Shared, (∃ (m : Nat) (i : Nat) (ys : List V) (H' : Hp), Inv X' [] (List.replicate h none ++ σ) H' s' ∧ tn i s'.heap ∧ (∀ b ∈ fp, H' b = none) ∧ W i m ys H') → True := fun _ _ => trivial
 have loop : ∀ (sL : Shared), (Inv X' [] (List.replicate h none ++ σ) (upd H2 s2.heap.objs.size (.lst [])) sL) → tn 0 sL.heap →
     codeAny (model X.prog X.w) X.A (.compLoop (.ListComp elt [⟨tg, iter, ifs, 0⟩] scope pos) 0 (.ref it) (.ref s2.heap.objs.size) X'.env)
       (compPost (model X.prog X.w) X.A X.xe none (EP X pins σ Q) (.ref s2.heap.objs.size) s3.heap.objs.size) sL := by
   intro sL IL stL
   refine compLoop_go (fun n s' => ∃ i ys H', Inv X' [] (List.replicate h none ++ σ) H' s' ∧ tn i s'.heap ∧ (∀ b ∈ fp, H' b = none) ∧ W i n ys H') ?_ m0 ⟨0, [], _, IL, stL, fun b hb => (f3 b hb).1, w0⟩
   rintro n s5 ⟨i, ys, H5, I5, st5, fr5, w5⟩
   obtain ⟨hDy, hh⟩ := turn i n ys H5 w5
   have eP : X'.prog = X.prog := by rw [← hX]; rfl
   have eW : X'.w = X.w := by rw [← hX]; rfl
   have eK : X'.K = X.K := by rw [← hX]; rfl
   have eE : X'.xe = fun _ _ => False := by rw [← hX]; rfl
   rcases hh with ⟨stop, qn⟩ | ⟨go, step⟩
   · have := T.done X' eP eW eK hcX i [] s5 _ H5 (fun _ _ => False) I5 (fpX fr5 rfl) st5 stop
     rw [hA] at this
     refine thn this fun r s6 ⟨hr, I6⟩ => ?_
     subst hr
     obtain ⟨m6, hm6, _⟩ := id I6.loc
     refine ⟨m6, ?_, fun h7 hs7 => ?_⟩
     · rw [← hX] at hm6; exact hm6
     · rw [← hX] at I6
       exact ⟨.ref s2.heap.objs.size, H5, comp_end I3 S f3 I6 hs7, rfl, qn⟩
   · have := T.item X' eP eW eK hcX i [] s5 _ H5 (fun _ _ => False) I5 (fpX fr5 rfl) st5 go
     rw [hA] at this
     refine thn this fun r s6 ⟨u, hr, h6⟩ => ?_
     subst hr
     refine thn h6 fun _ s7 ⟨x, H7, I7, r7, y7, st7, fr7⟩ => ?_
     have I7' := I7.pinned (fpX fr7 rfl) (T.obj _ _ st7)
     have back : ∀ {σ' : St} {H' : Hp} {s' : Shared}, Inv X' ([] ++ pinsAt fp s7.heap) σ' H' s' → σ'.length = (List.replicate h none ++ σ : St).length → σ'.drop h = (List.replicate h none ++ σ : St).drop h →
         Inv X' [] (List.replicate h none ++ σ) H' s' ∧ tn (i + 1) s'.heap ∧ ∀ b ∈ fp, H' b = none := by
       intro σ' H' s' I' hl hd
       refine ⟨I'.unpinned.weak hl.symm fun j v e => ?_, T.keep _ _ _ st7 fun b hb o e => ?_, fun b hb => ?_⟩
       · by_cases hj : j < h
         · rw [List.getElem?_append_left (by simpa using hj), List.getElem?_replicate, if_pos hj] at e
           cases e
         · have e1 : (σ'.drop h)[j - h]? = σ'[j]? := by rw [List.getElem?_drop]; congr 1; omega
           have e2 : ((List.replicate h none ++ σ : St).drop h)[j - h]? = (List.replicate h none ++ σ : St)[j]? := by rw [List.getElem?_drop]; congr 1; omega
           rw [← e1, hd, e2]; exact e
       · exact (I'.pin (b, o) (List.mem_append_right _ (List.mem_append_right _ (mem_pinsAt hb e)))).1
       · obtain ⟨o, e, _⟩ := T.obj _ _ st7 b hb
         exact (I'.pin (b, o) (List.mem_append_right _ (List.mem_append_right _ (mem_pinsAt hb e)))).2.1
     have hg' := hg s3.heap.objs.size s3 (upd H2 s2.heap.objs.size (.lst [])) fp
     have ht' := ht s3.heap.objs.size s3 (upd H2 s2.heap.objs.size (.lst [])) fp
     have he' := he s3.heap.objs.size s3 (upd H2 s2.heap.objs.size (.lst [])) fp
     rw [hX] at hg' ht' he'
     have hl0 : h ≤ (List.replicate h none ++ σ : St).length := by simp
     have a1 := hg' _ s7 _ H7 x u _ I7' r7 (ho x _ H7 _ hl0 (step x H7 y7))
     rw [hA, eP, eW, eE] at a1
     refine thn a1 fun _ s8 ⟨σ8, H8, I8, q8, l8, d8⟩ => ?_
     have a2 := ht' _ s8 σ8 H8 _ I8 q8
     rw [hA, eP, eW, eE] at a2
     refine thn a2 fun c s9 ⟨H9, I9, q9⟩ => ?_
     cases c with
     | false =>
       obtain ⟨m', hm', w'⟩ := q9
       obtain ⟨b1, b2, b3⟩ := back I9 l8 d8
       exact ⟨m', hm', i + 1, ys, H9, b1, b2, b3, w'⟩
     | true =>
       have a3 := he' _ s9 σ8 H9 _ I9 q9
       rw [hA, eP, eW, eE] at a3
       refine thn a3 fun yv s10 ⟨y, H10, I10, r10, hD10, hz10, m', hm', w'⟩ => ?_
       have a4 := mt_append (X := X') _ s10 σ8 H10 (.ref s2.heap.objs.size) [y] (.ref s2.heap.objs.size) [yv] (fun _ Hz => Hz = upd H10 s2.heap.objs.size (.lst (ys ++ [y]))) I10 rfl (.cons r10 .nil) ⟨_, ys, y, rfl, rfl, hD10, hz10, rfl⟩
       rw [hA, eP, eW, eE] at a4
       refine thn a4 fun _ s11 ⟨_, H11, I11, _, e11⟩ => ?_
       subst e11
       obtain ⟨b1, b2, b3⟩ := back I11 l8 d8
       exact ⟨m', hm', i + 1, ys ++ [y], _, b1, b2, b3, w'⟩
 have fin := codeAny_compStart_list (prog := X.prog) (w := X.w) (A := X.A) (R := compPost (model X.prog X.w) X.A X.xe none (EP X pins σ Q) (.ref s2.heap.objs.size) s3.heap.objs.size) (elt := elt) (target := tg) (iter := iter) (ifs := ifs) (rest := []) (scope := scope) (pos := pos) (it := .ref it) (acc := .ref s2.heap.objs.size) (env := X'.env)
   (loop _ I4 st4) (T.self _ 0 _ _ _ st4 (loop _ I4 st4))
 have hE : X'.env = compEnvC scope (cellsFrom (s3.heap.objs.size + 1) scope.names (clOf scope.names X.env)) s3.heap.objs.size X.env := by rw [← hX]; rfl
 rw [hE] at fin
 exact fin
theorem ps_setComp {X : Cx} {elt tg iter : Expr} {ifs : List Expr} {scope : Scope} {pos py spos : Pos} {wi : TI} {g : TG} {tf : TT} {te : TE} {N' : List Str} {n0 : Nat} {x0 : Str} (hN0 : X.N.Nodup) (hi0 : X.N[n0]? = some x0) (hx0 : X.env.scope.names.lookup x0 = some .local) (hsw : swapsWith (.ListComp elt [⟨tg, iter, ifs, 0⟩] scope pos) (some (.Name x0 py)) spos.line X.env = pure true) (h : Nat) (S : ScopeOk h N' X.N scope X.env.scope) (hc : X.calm = true) (hi : PI X tg iter wi)
   (hg : ∀ C s H ex, PG (compCx X scope N' C s H ex) tg g) (ho : OwnG h g) (ht : ∀ C s H ex, PF (compCx X scope N' C s H ex) ifs tf) (he : ∀ C s H ex, PE (compCx X scope N' C s H ex) elt te)
   (hs : ∀ x, foldedSetIterable iter X.env x = pure x := by intro _; rfl) :
   PS X (.Assign [.Name x0 py] (.ListComp elt [⟨tg, iter, ifs, 0⟩] scope pos) spos) (tAsg (tComp h wi g tf te) (gName n0)) := by
 intro pins s σ H DD I hq
 rw [exec_Assign_Name_used _ _ _ _ hsw]
 refine wpAny_bind (wpAny_standAt (wpAny_bind ?_))
 show wpAny _ X.A (do let _ ← comprehension (.ListComp elt [⟨tg, iter, ifs, 0⟩] scope pos) scope X.env _ (newList []) false (eval iter X.env) (some (assign (.Name x0 py) X.env))) _ _ s
 refine wpAny_bind (wpAny_mono (wpAny_comprehension_free (use := some (assign (.Name x0 py) X.env)) (Q := fun _ s' => SP X pins DD .next s') rfl hs (closure_ok (env := X.env) fun p hp hk => I.ok.has p.1 (S.free p hp hk).2) S.kind S.loc ?_) (fun _ s' hq => wpAny_pure (wpAny_pure hq)) fun _ _ e => e)
 refine thn (hi pins s σ H _ I hq) fun v s1 h1 => thn h1 fun itv s2 h2 => ?_
 obtain ⟨it, fp, tn, J, H2, rfl, I2, T, st2, f2, hq⟩ := h2
 refine wpAny_newObj_type ?_ (by show 0 ≤ sizeLine; exact Nat.zero_le _)
 have hD : H2 s2.heap.objs.size = none := I2.hok.fresh (Nat.le_refl _)
 have I3 : Inv X pins σ (upd H2 s2.heap.objs.size (.lst [])) { s2 with heap := s2.heap.push { cls := .type "list", data := .seq ([] : List Value).toArray }, toks := s2.toks } := I2.lnew (t' := s2.toks) .nil (Nat.zero_le _)
 generalize hs3 : ({ s2 with heap := s2.heap.push { cls := .type "list", data := .seq ([] : List Value).toArray }, toks := s2.toks } : Shared) = s3 at I3
 have hs3' : ({ s2 with heap := s2.heap.push { cls := .type "list", data := .seq ([] : List Value).toArray } } : Shared) = s3 := hs3
 obtain ⟨W, ⟨m0, w0⟩, turn⟩ := hq s2.heap.objs.size hD
 have olt : ∀ b ∈ fp, b < s2.heap.objs.size := fun b hb => by
   obtain ⟨o, e, _⟩ := T.obj _ _ st2 b hb
   exact Heap.lt_size e
 have hsz : s3.heap.objs.size = s2.heap.objs.size + 1 := by rw [← hs3]; exact Heap.size_push ..
 have k23 : ∀ b o, s2.heap.get? b = some o → s3.heap.get? b = some o := fun b o e => by rw [← hs3]; exact Heap.get?_push_of_some _ e
 have f3 : ∀ b ∈ fp, FpOk X pins (upd H2 s2.heap.objs.size (.lst [])) b := fun b hb => ⟨by rw [upd_ne (Nat.ne_of_lt (olt b hb))]; exact (f2 b hb).1, (f2 b hb).2⟩
 have lt3 : ∀ b ∈ fp, b < s3.heap.objs.size := fun b hb => by rw [hsz]; exact Nat.lt_succ_of_lt (olt b hb)
 refine new_env_cl fun h4 hn4 k34 cs4 => ?_
 have I4 := comp_start (h' := h4) (tk := s3.toks) I3 S f3 lt3 hn4 k34 cs4
 have st4 : tn 0 h4 := T.keep _ _ _ st2 fun b hb o e => k34 b o (k23 b o e)
 generalize hX : compCx X scope N' s3.heap.objs.size s3 (upd H2 s2.heap.objs.size (.lst [])) fp = X' at I4
 have hA : X'.A = X.A := by rw [← hX]; rfl
 -- the iterator's objects, in the block
 have fpX : ∀ {H' : Hp} {pl : List (Addr × Obj)}, (∀ b ∈ fp, H' b = none) → pl = [] → ∀ b ∈ fp, FpOk X' pl H' b := fun {H' pl} hn0 hpl b hb => by
   subst hpl
   obtain ⟨q0, q1, q2, q3, q4, q5⟩ := f3 b hb
   subst hX
   refine ⟨hn0 b hb, Nat.ne_of_lt (lt3 b hb), fun z => ?_, .inl hb, fun x c e => (comp_cells I3 S x c e).elim (q4 x c) fun z w => Nat.lt_irrefl _ (Nat.lt_of_lt_of_le (lt3 b hb) (Nat.le_of_succ_le (w ▸ z.2))), fun p hp => absurd (show p ∈ ([] : List (Addr × Obj)) from hp) (by simp)⟩
   rcases List.mem_cons.mp (I3.stkSub b z) with z | z
   · exact q1 z
   · exact q2 z
 have hcX : X'.calm = true := by rw [← hX]; exact hc
 have hR : ∀ s' : Shared, (∃ (m : Nat) (i : Nat) (ys : List V) (H' : Hp), Inv X' [] (List.replicate h none ++ σ) H' s' ∧ tn i s'.heap ∧ (∀ b ∈ fp, H' b = none) ∧ W i m ys H') → True := fun _ _ => trivial
 have loop : ∀ (sL : Shared), (Inv X' [] (List.replicate h none ++ σ) (upd H2 s2.heap.objs.size (.lst [])) sL) → tn 0 sL.heap →
     codeAny (model X.prog X.w) X.A (.compLoop (.ListComp elt [⟨tg, iter, ifs, 0⟩] scope pos) 0 (.ref it) (.ref s2.heap.objs.size) X'.env)
       (compPost (model X.prog X.w) X.A X.xe (some (assign (.Name x0 py) X.env)) (fun _ s' => SP X pins DD .next s') (.ref s2.heap.objs.size) s3.heap.objs.size) sL := by
   intro sL IL stL
   refine compLoop_go (fun n s' => ∃ i ys H', Inv X' [] (List.replicate h none ++ σ) H' s' ∧ tn i s'.heap ∧ (∀ b ∈ fp, H' b = none) ∧ W i n ys H') ?_ m0 ⟨0, [], _, IL, stL, fun b hb => (f3 b hb).1, w0⟩
   rintro n s5 ⟨i, ys, H5, I5, st5, fr5, w5⟩
   obtain ⟨hDy, hh⟩ := turn i n ys H5 w5
   have eP : X'.prog = X.prog := by rw [← hX]; rfl
   have eW : X'.w = X.w := by rw [← hX]; rfl
   have eK : X'.K = X.K := by rw [← hX]; rfl
   have eE : X'.xe = fun _ _ => False := by rw [← hX]; rfl
   rcases hh with ⟨stop, qn⟩ | ⟨go, step⟩
   · have := T.done X' eP eW eK hcX i [] s5 _ H5 (fun _ _ => False) I5 (fpX fr5 rfl) st5 stop
     rw [hA] at this
     refine thn this fun r s6 ⟨hr, I6⟩ => ?_
     subst hr
     obtain ⟨m6, hm6, _⟩ := id I6.loc
     have hC6 : H5 s3.heap.objs.size = none := by rw [← hX] at I6; exact I6.free
     have hm6 : s6.heap.Ns s3.heap.objs.size m6 := by rw [← hX] at hm6; exact hm6
     have J6 : Inv X pins σ H5 s6 := by rw [← hX] at I6; exact comp_end I3 S f3 I6 (Heap.SameBut.refl ..)
     have neL : s3.heap.objs.size ≠ X.env.locals := Nat.ne_of_gt I3.lt
     have neC : ∀ x c, X.env.cells.lookup x = some c → c ≠ s3.heap.objs.size := fun x c e => by
       obtain ⟨v, z⟩ := I3.cell x c e
       exact Nat.ne_of_lt z.lt
     show wpAny (model X.prog X.w) X.A (assign (.Name x0 py) X.env (.ref s2.heap.objs.size)) _ _ s6
     refine wpAny_assign_Name (store_ok2 (v := .ref s2.heap.objs.size) J6 hN0 hi0 (.inl hx0) rfl (fun s7 I7 ⟨a, hsb, ha⟩ => ?_) (.inr hx0))
     have hac : s3.heap.objs.size ≠ a := by
       rcases ha with rfl | ha
       · exact neL
       · exact Ne.symm (neC _ _ ha)
     refine ⟨m6, hm6.sameBut hsb hac, fun h8 hs8 => ⟨_, H5, I7.turned (t' := s7.toks) (it := s3.heap.objs.size) (fun b o hb e => (hs8.2 b hb).trans e) hC6 neL (.inr I3.sz) neC (fun p hp => ?_), qn⟩⟩
     exact Nat.ne_of_lt (Heap.lt_size (I3.pin p hp).1)
   · have := T.item X' eP eW eK hcX i [] s5 _ H5 (fun _ _ => False) I5 (fpX fr5 rfl) st5 go
     rw [hA] at this
     refine thn this fun r s6 ⟨u, hr, h6⟩ => ?_
     subst hr
     refine thn h6 fun _ s7 ⟨x, H7, I7, r7, y7, st7, fr7⟩ => ?_
     have I7' := I7.pinned (fpX fr7 rfl) (T.obj _ _ st7)
     have back : ∀ {σ' : St} {H' : Hp} {s' : Shared}, Inv X' ([] ++ pinsAt fp s7.heap) σ' H' s' → σ'.length = (List.replicate h none ++ σ : St).length → σ'.drop h = (List.replicate h none ++ σ : St).drop h →
         Inv X' [] (List.replicate h none ++ σ) H' s' ∧ tn (i + 1) s'.heap ∧ ∀ b ∈ fp, H' b = none := by
       intro σ' H' s' I' hl hd
       refine ⟨I'.unpinned.weak hl.symm fun j v e => ?_, T.keep _ _ _ st7 fun b hb o e => ?_, fun b hb => ?_⟩
       · by_cases hj : j < h
         · rw [List.getElem?_append_left (by simpa using hj), List.getElem?_replicate, if_pos hj] at e
           cases e
         · have e1 : (σ'.drop h)[j - h]? = σ'[j]? := by rw [List.getElem?_drop]; congr 1; omega
           have e2 : ((List.replicate h none ++ σ : St).drop h)[j - h]? = (List.replicate h none ++ σ : St)[j]? := by rw [List.getElem?_drop]; congr 1; omega
           rw [← e1, hd, e2]; exact e
       · exact (I'.pin (b, o) (List.mem_append_right _ (List.mem_append_right _ (mem_pinsAt hb e)))).1
       · obtain ⟨o, e, _⟩ := T.obj _ _ st7 b hb
         exact (I'.pin (b, o) (List.mem_append_right _ (List.mem_append_right _ (mem_pinsAt hb e)))).2.1
     have hg' := hg s3.heap.objs.size s3 (upd H2 s2.heap.objs.size (.lst [])) fp
     have ht' := ht s3.heap.objs.size s3 (upd H2 s2.heap.objs.size (.lst [])) fp
     have he' := he s3.heap.objs.size s3 (upd H2 s2.heap.objs.size (.lst [])) fp
     rw [hX] at hg' ht' he'
     have hl0 : h ≤ (List.replicate h none ++ σ : St).length := by simp
     have a1 := hg' _ s7 _ H7 x u _ I7' r7 (ho x _ H7 _ hl0 (step x H7 y7))
     rw [hA, eP, eW, eE] at a1
     refine thn a1 fun _ s8 ⟨σ8, H8, I8, q8, l8, d8⟩ => ?_
     have a2 := ht' _ s8 σ8 H8 _ I8 q8
     rw [hA, eP, eW, eE] at a2
     refine thn a2 fun c s9 ⟨H9, I9, q9⟩ => ?_
     cases c with
     | false =>
       obtain ⟨m', hm', w'⟩ := q9
       obtain ⟨b1, b2, b3⟩ := back I9 l8 d8
       exact ⟨m', hm', i + 1, ys, H9, b1, b2, b3, w'⟩
     | true =>
       have a3 := he' _ s9 σ8 H9 _ I9 q9
       rw [hA, eP, eW, eE] at a3
       refine thn a3 fun yv s10 ⟨y, H10, I10, r10, hD10, hz10, m', hm', w'⟩ => ?_
       have a4 := mt_append (X := X') _ s10 σ8 H10 (.ref s2.heap.objs.size) [y] (.ref s2.heap.objs.size) [yv] (fun _ Hz => Hz = upd H10 s2.heap.objs.size (.lst (ys ++ [y]))) I10 rfl (.cons r10 .nil) ⟨_, ys, y, rfl, rfl, hD10, hz10, rfl⟩
       rw [hA, eP, eW, eE] at a4
       refine thn a4 fun _ s11 ⟨_, H11, I11, _, e11⟩ => ?_
       subst e11
       obtain ⟨b1, b2, b3⟩ := back I11 l8 d8
       exact ⟨m', hm', i + 1, ys ++ [y], _, b1, b2, b3, w'⟩
 have fin := codeAny_compStart_list (prog := X.prog) (w := X.w) (A := X.A) (R := compPost (model X.prog X.w) X.A X.xe (some (assign (.Name x0 py) X.env)) (fun _ s' => SP X pins DD .next s') (.ref s2.heap.objs.size) s3.heap.objs.size) (elt := elt) (target := tg) (iter := iter) (ifs := ifs) (rest := []) (scope := scope) (pos := pos) (it := .ref it) (acc := .ref s2.heap.objs.size) (env := X'.env)
   (loop _ I4 st4) (T.self _ 0 _ _ _ st4 (loop _ I4 st4))
 have hE : X'.env = compEnvC scope (cellsFrom (s3.heap.objs.size + 1) scope.names (clOf scope.names X.env)) s3.heap.objs.size X.env := by rw [← hX]; rfl
 rw [hE] at fin
 exact fin
end L3
namespace L3
open PySem PySem.Spec PySem.Calls
open PyProof.Rows hiding St
open L2
section
variable {X : Cx} {pins : List (Addr × Obj)} {σ : St} {H : Hp} {s : Shared} {a : Addr}
def XR (a C dx : Addr) : HO := .ext fun h => ∃ o vs, h.get? a = some o ∧ o.cls = .ref C ∧ o.dict = some dx ∧ o.data = .fields vs
end
end L3
namespace L3
open PySem PySem.Spec
open PyProof.Rows hiding St
open L2
mutual
inductive Is (K : PySem.W.Frag) (F : Addr → Prop) (H : Hp) : V → PyData → Prop
 | none : Is K F H .non .none
 | bool (b) : Is K F H (.bl b) (.bool b)
 | int (i) : Is K F H (.int i) (.int i)
 | str (x) : Is K F H (.str x) (.str x)
 | list {a xs ds} : F a → H a = some (.lst xs) → IsAll K F H xs ds → Is K F H (.ref a) (.list ds)
 | tuple {a xs ds} : SqT K H a xs → IsAll K F H xs ds → Is K F H (.ref a) (.tuple ds)
inductive IsAll (K : PySem.W.Frag) (F : Addr → Prop) (H : Hp) : List V → List PyData → Prop
 | nil : IsAll K F H [] []
 | cons {v vs d ds} : Is K F H v d → IsAll K F H vs ds → IsAll K F H (v :: vs) (d :: ds)
end
section
variable {K : PySem.W.Frag} {F F' : Addr → Prop} {H H' : Hp}
mutual
theorem Is.to (hL : ∀ a xs, F a → H a = some (.lst xs) → F' a ∧ H' a = some (.lst xs)) (hT : ∀ a xs, SqT K H a xs → SqT K H' a xs) : ∀ {v d}, Is K F H v d → Is K F' H' v d
 | _, _, .none => .none
 | _, _, .bool b => .bool b
 | _, _, .int i => .int i
 | _, _, .str x => .str x
 | _, _, .list f q r => .list (hL _ _ f q).1 (hL _ _ f q).2 (IsAll.to hL hT r)
 | _, _, .tuple q r => .tuple (hT _ _ q) (IsAll.to hL hT r)
theorem IsAll.to (hL : ∀ a xs, F a → H a = some (.lst xs) → F' a ∧ H' a = some (.lst xs)) (hT : ∀ a xs, SqT K H a xs → SqT K H' a xs) : ∀ {vs ds}, IsAll K F H vs ds → IsAll K F' H' vs ds
 | _, _, .nil => .nil
 | _, _, .cons r t => .cons (Is.to hL hT r) (IsAll.to hL hT t)
end
theorem IsAll.length : ∀ {vs ds}, IsAll K F H vs ds → vs.length = ds.length
 | _, _, .nil => rfl
 | _, _, .cons _ t => by rw [List.length_cons, List.length_cons, IsAll.length t]
theorem IsAll.get : ∀ {vs ds} {i : Nat} {d}, IsAll K F H vs ds → ds[i]? = some d → ∃ v, vs[i]? = some v ∧ Is K F H v d
 | _, _, _, _, .nil, e => by simp at e
 | _, _, 0, _, .cons r _, e => by simp at e; subst e; exact ⟨_, rfl, r⟩
 | _, _, i + 1, d, .cons _ t, e => by
   obtain ⟨v, h1, h2⟩ := IsAll.get (i := i) (d := d) t (by simpa using e)
   exact ⟨v, by simpa using h1, h2⟩
theorem IsAll.append : ∀ {vs ds ws es}, IsAll K F H vs ds → IsAll K F H ws es → IsAll K F H (vs ++ ws) (ds ++ es)
 | _, _, _, _, .nil, s => s
 | _, _, _, _, .cons r t, s => .cons r (IsAll.append t s)
theorem IsAll.snoc {vs ds v d} (h : IsAll K F H vs ds) (r : Is K F H v d) : IsAll K F H (vs ++ [v]) (ds ++ [d]) := h.append (.cons r .nil)
end
def SameB (M : Addr → Prop) (H H' : Hp) : Prop := ∀ a o, H a = some o → ¬ M a → H' a = some o
theorem SameB.refl (M : Addr → Prop) (H : Hp) : SameB M H H := fun _ _ h _ => h
theorem SameB.trans {M : Addr → Prop} {H H1 H2 : Hp} (a : SameB M H H1) (b : SameB M H1 H2) : SameB M H H2 := fun c o h n => b c o (a c o h n) n
theorem SameB.of {M : Addr → Prop} {H H' : Hp} (s : Same H H') : SameB M H H' := fun a o h _ => s a o h
theorem SameB.free {M : Addr → Prop} {H H' : Hp} (e : SameB M H H') {l : Addr} (hm : ¬ M l) (h : H' l = Option.none) : H l = Option.none := by
 cases q : H l with
 | none => rfl
 | some o => rw [e l o q hm] at h; cases h
def TupStay (H H' : Hp) : Prop := ∀ a u, (∃ xs, u = HO.tup xs ∨ ∃ o, u = HO.frz o (.tup xs)) → H a = some u → H' a = some u
theorem SqT.stay {K : PySem.W.Frag} {H H' : Hp} {a : Addr} {xs : List V} (e : TupStay H H') (h : SqT K H a xs) : SqT K H' a xs := by
 rcases h with (h | ⟨o, h⟩) | h
 · exact .inl (.inl (e _ _ ⟨xs, .inl rfl⟩ h))
 · exact .inl (.inr ⟨o, e _ _ ⟨xs, .inr ⟨o, rfl⟩⟩ h⟩)
 · exact .inr h
structure Ob where
 M : Addr → Prop
 P : Hp → Prop
 v : V
structure Ob.Ok (O : Ob) : Prop where
 loc : ∀ H H', (∀ a, O.M a → H' a = H a) → O.P H → O.P H'
 mutb : ∀ H a o, O.P H → H a = some o → O.M a → (∀ xs, o ≠ .tup xs) ∧ ∀ q u, o ≠ .frz q u
 here : ∀ H a, O.P H → O.M a → ∃ o, H a = some o
theorem Ob.Ok.grow {O : Ob} (ok : O.Ok) (H H' : Hp) (s : Same H H') (p : O.P H) : O.P H' := ok.loc H H' (fun a m => by
 obtain ⟨o, e⟩ := ok.here H a p m
 rw [e, s a o e]) p
def Ob.plus (O : Ob) (D : Addr) (u : HO) : Ob := ⟨fun a => O.M a ∨ a = D, fun H => O.P H ∧ H D = some u, O.v⟩
theorem Ob.Ok.plus {O : Ob} (ok : O.Ok) (D : Addr) (xs : List V) : (O.plus D (.lst xs)).Ok :=
 ⟨fun H H' e p => ⟨ok.loc H H' (fun a m => e a (.inl m)) p.1, (e D (.inr rfl)).trans p.2⟩,
  fun H a o p e m => by
   rcases m with m | rfl
   · exact ok.mutb H a o p.1 e m
   · rw [p.2] at e; cases e; exact ⟨fun _ h => (by cases h), fun _ _ h => (by cases h)⟩,
  fun H a p m => by
   rcases m with m | rfl
   · exact ok.here H a p.1 m
   · exact ⟨_, p.2⟩⟩
structure Stp (O : Ob) (H H' : Hp) : Prop where
 s : SameB O.M H H'
 p : O.P H → O.P H'
 t : TupStay H H'
theorem Stp.refl (O : Ob) (H : Hp) : Stp O H H := ⟨.refl _ _, fun h => h, fun _ _ _ h => h⟩
theorem Stp.trans {O : Ob} {H H1 H2 : Hp} (a : Stp O H H1) (b : Stp O H1 H2) : Stp O H H2 := ⟨a.s.trans b.s, fun h => b.p (a.p h), fun c u hu h => b.t c u hu (a.t c u hu h)⟩
theorem Stp.same {O : Ob} (ok : O.Ok) {H H' : Hp} (s : Same H H') : Stp O H H' := ⟨.of s, ok.grow H H' s, fun a u _ h => s a u h⟩
theorem same_new {H : Hp} {p : Addr} (h : H p = none) (o : HO) : Same H (upd H p o) := fun b u q => by rw [upd_ne (ne_of_none q h)]; exact q
theorem Stp.new {O : Ob} (ok : O.Ok) {H : Hp} {p : Addr} (h : H p = none) (o : HO) : Stp O H (upd H p o) := .same ok (same_new h o)
section
variable {K : PySem.W.Frag} {O : Ob} {F F' : Addr → Prop} {H H' : Hp} {v : V} {d : PyData}
theorem Is.stp (s : Stp O H H') (hF : ∀ a, F a → F' a) (hM : ∀ a, F a → ¬ O.M a) (h : Is K F H v d) : Is K F' H' v d :=
 h.to (fun a xs f q => ⟨hF a f, s.s a _ q (hM a f)⟩) fun a xs q => SqT.stay (h := q) s.t
theorem IsAll.stp {vs : List V} {ds : List PyData} (s : Stp O H H') (hF : ∀ a, F a → F' a) (hM : ∀ a, F a → ¬ O.M a) (h : IsAll K F H vs ds) : IsAll K F' H' vs ds :=
 h.to (fun a xs f q => ⟨hF a f, s.s a _ q (hM a f)⟩) fun a xs q => SqT.stay (h := q) s.t
theorem Is.weak (h : Is K F H v d) (hF : ∀ a, F a → F' a) : Is K F' H v d := h.to (fun a xs f q => ⟨hF a f, q⟩) fun a xs q => q
theorem IsAll.weak {vs : List V} {ds : List PyData} (h : IsAll K F H vs ds) (hF : ∀ a, F a → F' a) : IsAll K F' H vs ds := h.to (fun a xs f q => ⟨hF a f, q⟩) fun a xs q => q
end
mutual
def flat : PyData → Bool
 | .none => true
 | .bool _ => true
 | .int _ => true
 | .str _ => true
 | .tuple ds => flats ds
 | _ => false
def flats : List PyData → Bool
 | [] => true
 | d :: ds => flat d && flats ds
end
theorem flats_iff : ∀ {ds : List PyData}, flats ds = true ↔ ∀ d ∈ ds, flat d = true
 | [] => by simp [flats]
 | d :: ds => by rw [flats, Bool.and_eq_true, flats_iff]; simp
mutual
theorem Is.flat {K : PySem.W.Frag} {F F' : Addr → Prop} {H H' : Hp} (t : TupStay H H') : ∀ {v d}, Is K F H v d → L3.flat d = true → Is K F' H' v d
 | _, _, .none, _ => .none
 | _, _, .bool b, _ => .bool b
 | _, _, .int i, _ => .int i
 | _, _, .str x, _ => .str x
 | _, _, .list _ _ _, h => by simp [L3.flat] at h
 | _, _, .tuple q r, h => .tuple (SqT.stay t q) (IsAll.flats t r (by simpa [L3.flat] using h))
theorem IsAll.flats {K : PySem.W.Frag} {F F' : Addr → Prop} {H H' : Hp} (t : TupStay H H') : ∀ {vs ds}, IsAll K F H vs ds → L3.flats ds = true → IsAll K F' H' vs ds
 | _, _, .nil, _ => .nil
 | _, _, .cons r s, h => by
   rw [L3.flats, Bool.and_eq_true] at h
   exact .cons (Is.flat t r h.1) (IsAll.flats t s h.2)
end
theorem TupStay.refl (H : Hp) : TupStay H H := fun _ _ _ h => h
section
variable {X : Cx} {pins : List (Addr × Obj)} {σ : St} {H : Hp} {s : Shared} {F : Addr → Prop}
mutual
theorem Is.reads (I : Inv X pins σ H s) : ∀ {v d} {u : Value}, Is X.K F H v d → RelV v u → ∃ as, Reads s.heap u d as
 | _, _, _, .none, r => by cases r; exact ⟨_, .none⟩
 | _, _, _, .bool b, r => by cases r; exact ⟨_, .bool b⟩
 | _, _, _, .int i, r => by obtain ⟨t, rfl⟩ := r; exact ⟨_, .int i t⟩
 | _, _, _, .str x, r => by obtain ⟨t, rfl⟩ := r; exact ⟨_, .str x t⟩
 | _, _, _, .list f q rs, r => by
   cases r
   obtain ⟨its, rv, ⟨o, n, e, c, _, dt⟩, _⟩ := I.list (.of q)
   obtain ⟨as, ra⟩ := IsAll.reads I rs rv
   exact ⟨_, .list e c dt (by simpa using ra)⟩
 | _, _, _, .tuple q rs, r => by
   cases r
   obtain ⟨its, rv, ⟨o, e, c, n, dt⟩, _⟩ := I.tuple q
   obtain ⟨as, ra⟩ := IsAll.reads I rs rv
   exact ⟨_, .tuple e c dt (by simpa using ra)⟩
theorem IsAll.reads (I : Inv X pins σ H s) : ∀ {vs ds} {us : List Value}, IsAll X.K F H vs ds → Vals vs us → ∃ as, ReadsAll s.heap us ds as
 | _, _, _, .nil, r => by cases r; exact ⟨_, .nil⟩
 | _, _, _, .cons h t, r => by
   cases r with
   | cons r1 r2 =>
     obtain ⟨as, ra⟩ := Is.reads I h r1
     obtain ⟨bs, rb⟩ := IsAll.reads I t r2
     exact ⟨_, .cons ra rb⟩
end
end
def IsS (K : PySem.W.Frag) (F : Addr → Prop) (H : Hp) (v : V) (n : Nat) : Prop := ∃ a xs, v = .ref a ∧ xs.length = n ∧ ((F a ∧ Rd H a (.lst xs)) ∨ ∀ H', SqL K H' a xs)
theorem IsS.to {K : PySem.W.Frag} {F F' : Addr → Prop} {H H' : Hp} {v : V} {n : Nat} (hL : ∀ a u, F a → H a = some u → F' a ∧ H' a = some u) (h : IsS K F H v n) : IsS K F' H' v n := by
 obtain ⟨a, xs, e, l, ⟨f, q | ⟨o, q⟩⟩ | q⟩ := h
 · exact ⟨a, xs, e, l, .inl ⟨(hL a _ f q).1, .inl (hL a _ f q).2⟩⟩
 · exact ⟨a, xs, e, l, .inl ⟨(hL a _ f q).1, .inr ⟨o, (hL a _ f q).2⟩⟩⟩
 · exact ⟨a, xs, e, l, .inr q⟩
def DkAt (H : Hp) (v : V) (a : Addr) (ks : List Str) : Prop := v = .ref a ∧ ∃ kvs, H a = some (.dK kvs) ∧ kvs.map (·.1) = ks.map Sum.inr
theorem DkAt.to {H H' : Hp} {v : V} {a : Addr} {ks : List Str} (h : DkAt H v a ks) (e : ∀ u, H a = some u → H' a = some u) : DkAt H' v a ks := let ⟨h1, kvs, h2, h3⟩ := h; ⟨h1, kvs, e _ h2, h3⟩
inductive R where
 | o (d : PyData)
 | n (ds : List PyData)
def R.d : R → PyData
 | .o d => d
 | .n ds => .list ds
structure Thg where
 R : PySem.W.Frag → (Addr → Prop) → (Addr → Prop) → Hp → V → Prop
 to : ∀ {K : PySem.W.Frag} {F F' W W' : Addr → Prop} {H H' : Hp} {v : V}, (∀ a u, F a → H a = some u → F' a ∧ H' a = some u) → (∀ a u, W a → H a = some u → W' a ∧ H' a = some u) → TupStay H H' → R K F W H v → R K F' W' H' v
inductive DV where
 | im (d : PyData)
 | own (ds : List PyData)
 | ob
 | scr (n : Nat)
 | dct (ks : List Str)
   | gen (f : Addr → List V → HO) (ds : List PyData)
   | rd (f : Addr → List V → HO) (ds : List PyData)
   | exc (C : Addr) (ns : List Str) (ds : List PyData)
   | thg (T : Thg)
   | thr (T : Thg)
abbrev DSt := List (Option DV)
abbrev DE := DSt → (R → Prop) → Prop
abbrev DT := DSt → (Bool → Prop) → Prop
abbrev DA := DSt → (List PyData → Prop) → Prop
def unM (O : Ob) : Addr → Prop := fun a => ¬ O.M a
def ExAt (F : Addr → Prop) (H : Hp) (v : V) (C : Addr) (ns : List Str) (xs : List V) : Prop := ∃ a dx, v = .ref a ∧ F a ∧ F dx ∧ H a = some (XR a C dx) ∧ H dx = some (.xd (ns.zip xs)) ∧ xs.length = ns.length
theorem ExAt.to {F F' : Addr → Prop} {H H' : Hp} {v : V} {C : Addr} {ns : List Str} {xs : List V} (hL : ∀ a u, F a → H a = some u → F' a ∧ H' a = some u) (h : ExAt F H v C ns xs) : ExAt F' H' v C ns xs := by
 obtain ⟨a, dx, e, f1, f2, q1, q2, l⟩ := h
 exact ⟨a, dx, e, (hL a _ f1 q1).1, (hL dx _ f2 q2).1, (hL a _ f1 q1).2, (hL dx _ f2 q2).2, l⟩
def SeenV (K : PySem.W.Frag) (O : Ob) (H : Hp) (v : V) : DV → Prop
 | .im d => Is K (unM O) H v d
 | .own ds => Is K (unM O) H v (.list ds)
 | .ob => v = O.v
 | .scr n => IsS K (unM O) H v n
 | .dct ks => ∃ a, ¬ O.M a ∧ DkAt H v a ks
 | .gen f ds => ∃ a xs, v = .ref a ∧ ¬ O.M a ∧ H a = some (f a xs) ∧ IsAll K (unM O) H xs ds
 | .rd f ds => ∃ a xs, v = .ref a ∧ ¬ O.M a ∧ H a = some (f a xs) ∧ IsAll K (unM O) H xs ds
 | .exc C ns ds => ∃ xs, ExAt (unM O) H v C ns xs ∧ IsAll K (unM O) H xs ds
 | .thg T => ∃ W : Addr → Prop, (∀ a, W a → ¬ O.M a ∧ ∃ o, H a = some o) ∧ T.R K (unM O) W H v
 | .thr T => ∃ W : Addr → Prop, (∀ a, W a → ¬ O.M a ∧ ∃ o, H a = some o) ∧ T.R K (unM O) W H v
structure Seen (K : PySem.W.Frag) (O : Ob) (H : Hp) (σ : St) (ρ : DSt) : Prop where
 ok : O.Ok
 p : O.P H
 at_ : ∀ (i : Nat) r, ρ[i]? = some (some r) → ∃ v, σ[i]? = some (some v) ∧ SeenV K O H v r
 len : ρ.length = σ.length
theorem SeenV.stp {K : PySem.W.Frag} {O : Ob} {H H' : Hp} {v : V} {r : DV} (s : Stp O H H') (h : SeenV K O H v r) : SeenV K O H' v r := by
 cases r with
 | im d => exact Is.stp s (fun _ f => f) (fun _ f => f) h
 | own ds => exact Is.stp s (fun _ f => f) (fun _ f => f) h
 | ob => exact h
 | scr n => exact IsS.to (fun a u f q => ⟨f, s.s a u q f⟩) h
 | dct ks => obtain ⟨a, n, h⟩ := h; exact ⟨a, n, h.to fun u q => s.s a u q n⟩
 | gen f ds => obtain ⟨a, xs, e, n, q, z⟩ := h; exact ⟨a, xs, e, n, s.s a _ q n, IsAll.stp s (fun _ f => f) (fun _ f => f) z⟩
 | rd f ds => obtain ⟨a, xs, e, n, q, z⟩ := h; exact ⟨a, xs, e, n, s.s a _ q n, IsAll.stp s (fun _ f => f) (fun _ f => f) z⟩
 | exc C ns ds => obtain ⟨xs, e, z⟩ := h; exact ⟨xs, e.to fun a u f q => ⟨f, s.s a u q f⟩, IsAll.stp s (fun _ f => f) (fun _ f => f) z⟩
 | thg T => obtain ⟨W, hw, z⟩ := h; exact ⟨W, fun a w => ⟨(hw a w).1, let ⟨o, e⟩ := (hw a w).2; ⟨o, s.s a o e (hw a w).1⟩⟩, T.to (fun a u f q => ⟨f, s.s a u q f⟩) (fun a u w q => ⟨w, s.s a u q (hw a w).1⟩) s.t z⟩
 | thr T => obtain ⟨W, hw, z⟩ := h; exact ⟨W, fun a w => ⟨(hw a w).1, let ⟨o, e⟩ := (hw a w).2; ⟨o, s.s a o e (hw a w).1⟩⟩, T.to (fun a u f q => ⟨f, s.s a u q f⟩) (fun a u w q => ⟨w, s.s a u q (hw a w).1⟩) s.t z⟩
theorem Seen.stp {K : PySem.W.Frag} {O : Ob} {H H' : Hp} {σ : St} {ρ : DSt} (S : Seen K O H σ ρ) (s : Stp O H H') : Seen K O H' σ ρ :=
 ⟨S.ok, s.p S.p, fun i r e => let ⟨v, h1, h2⟩ := S.at_ i r e; ⟨v, h1, h2.stp s⟩, S.len⟩
def Out (K : PySem.W.Frag) (O : Ob) (H H' : Hp) (v : V) : R → Prop
 | .o d => Is K (unM O) H' v d
 | .n ds => ∃ a xs, v = .ref a ∧ H a = none ∧ H' a = some (.lst xs) ∧ IsAll K (unM O) H' xs ds
theorem Out.is {K : PySem.W.Frag} {O : Ob} {H H' : Hp} {v : V} {r : R} (ok : O.Ok) (p : O.P H) (h : Out K O H H' v r) : Is K (unM O) H' v r.d := by
 cases r with
 | o d => exact h
 | n ds =>
   obtain ⟨a, xs, rfl, hn, e, q⟩ := h
   exact .list (fun m => by obtain ⟨o, z⟩ := ok.here H a p m; rw [hn] at z; cases z) e q
def ED (K : PySem.W.Frag) (O : Ob) (t : TE) (f : DE) : Prop :=
 ∀ (σ : St) (H : Hp) (ρ : DSt) (Q : VK) (Qd : R → Prop), Seen K O H σ ρ → f ρ Qd → (∀ v H' r, Stp O H H' → Out K O H H' v r → Qd r → Q v H') → t σ H Q
def TD (K : PySem.W.Frag) (O : Ob) (t : TT) (f : DT) : Prop :=
 ∀ (σ : St) (H : Hp) (ρ : DSt) (Q : Bool → Hp → Prop) (Qd : Bool → Prop), Seen K O H σ ρ → f ρ Qd → (∀ b H', Stp O H H' → Qd b → Q b H') → t σ H Q
def AD (K : PySem.W.Frag) (O : Ob) (t : TA) (f : DA) : Prop :=
 ∀ (σ : St) (H : Hp) (ρ : DSt) (Q : List V → Hp → Prop) (Qd : List PyData → Prop), Seen K O H σ ρ → f ρ Qd → (∀ vs H' ds, Stp O H H' → IsAll K (unM O) H' vs ds → Qd ds → Q vs H') → t σ H Q
section
variable {K : PySem.W.Frag} {O : Ob}
def cD (d : PyData) : DE := fun _ Q => Q (.o d)
theorem ed_int {i : Int} : ED K O (tC (.int i)) (cD (.int i)) := fun σ H ρ Q Qd S h k => k _ H (.o (.int i)) (.refl _ _) (Is.int i) h
theorem ed_str {x : Str} : ED K O (tC (.str x)) (cD (.str x)) := fun σ H ρ Q Qd S h k => k _ H (.o (.str x)) (.refl _ _) (Is.str x) h
theorem ed_bl {b : Bool} : ED K O (tC (.bl b)) (cD (.bool b)) := fun σ H ρ Q Qd S h k => k _ H (.o (.bool b)) (.refl _ _) (Is.bool b) h
def seeR : DV → Option PyData
 | .im d => some d
 | .own ds => some (.list ds)
 | .ob => none
 | .scr _ => none
 | .dct _ => none
 | .gen _ _ => none
 | .rd _ _ => none
 | .exc _ _ _ => none
 | .thg _ => none
 | .thr _ => none
def vD (i : Nat) : DE := fun ρ Q => ∃ r d, ρ[i]? = some (some r) ∧ seeR r = some d ∧ Q (.o d)
theorem ed_var {i : Nat} : ED K O (tVar i) (vD i) := fun σ H ρ Q Qd S h k => by
 obtain ⟨r, d, e, e2, h⟩ := h
 obtain ⟨v, hv, sv⟩ := S.at_ i r e
 refine ⟨v, hv, k _ H _ (.refl _ _) ?_ h⟩
 cases r with
 | im d' => cases e2; exact sv
 | own ds => cases e2; exact sv
 | ob => cases e2
 | scr n => cases e2
 | dct ks => cases e2
 | gen f ds => cases e2
 | rd f ds => cases e2
 | exc C ns ds => cases e2
 | thg T => cases e2
 | thr T => cases e2
def OpD (K : PySem.W.Frag) (O : Ob) (r : R2) (f : PyData → PyData → (R → Prop) → Prop) : Prop :=
 ∀ (H : Hp) (x y : V) (d e : PyData) (Q : VK) (Qd : R → Prop), O.Ok → O.P H → Is K (unM O) H x d → Is K (unM O) H y e → f d e Qd → (∀ v H' r, Stp O H H' → Out K O H H' v r → Qd r → Q v H') → r x y H Q
theorem Out.ahead {H H1 H2 : Hp} {v : V} {r : R} (ok : O.Ok) (p : O.P H) (s1 : Stp O H H1) (h : Out K O H1 H2 v r) : Out K O H H2 v r := by
 cases r with
 | o d => exact h
 | n ds =>
   obtain ⟨a, xs, rfl, hn, e, q⟩ := h
   have m : ¬ O.M a := fun m => by obtain ⟨o, z⟩ := ok.here H1 a (s1.p p) m; rw [hn] at z; cases z
   exact ⟨a, xs, rfl, s1.s.free m hn, e, q⟩
def opDE (f : PyData → PyData → (R → Prop) → Prop) (fa fb : DE) : DE := fun ρ Q => fa ρ fun a => fb ρ fun b => f a.d b.d Q
theorem ed_op {r : R2} {ta tb : TE} {f : PyData → PyData → (R → Prop) → Prop} {fa fb : DE} (hr : OpD K O r f) (ha : ED K O ta fa) (hb : ED K O tb fb) : ED K O (tOp r ta tb) (opDE f fa fb) := fun σ H ρ Q Qd S h k => by
 refine ha σ H ρ _ _ S h fun v H1 a s1 o1 h1 => ?_
 refine hb σ H1 ρ _ _ (S.stp s1) h1 fun w H2 b s2 o2 h2 => ?_
 have p1 := s1.p S.p
 refine hr H2 v w a.d b.d _ _ S.ok (s2.p p1) (Is.stp s2 (fun _ f => f) (fun _ f => f) (o1.is S.ok S.p)) (o2.is S.ok p1) h2 fun z H3 c s3 o3 h3 => ?_
 exact k z H3 c ((s1.trans s2).trans s3) (Out.ahead S.ok S.p (s1.trans s2) o3) h3
def fn2 (F : PyData → PyData → Option R) : PyData → PyData → (R → Prop) → Prop := fun a b Q => ∃ r, F a b = some r ∧ Q r
def bD (f : DE) : DT := fun ρ Q => f ρ fun r => ∃ b, r.d = .bool b ∧ Q b
theorem td_val {t : TE} {f : DE} (h : ED K O t f) : TD K O (tTest t) (bD f) := fun σ H ρ Q Qd S hf k => by
 refine h σ H ρ _ _ S hf fun v H1 r s1 o1 ⟨b, e, q⟩ => ?_
 have i := o1.is S.ok S.p
 rw [e] at i
 cases i
 exact ⟨b, rfl, k b H1 s1 q⟩
theorem td_valB {t : TE} {f : DE} (h : ED K O t f) : TD K O (tB t) (bD f) := fun σ H ρ Q Qd S hf k => by
 refine h σ H ρ _ _ S hf fun v H1 r s1 o1 ⟨b, e, q⟩ => ?_
 have i := o1.is S.ok S.p
 rw [e] at i
 cases i
 exact ⟨b, rfl, k b H1 s1 q⟩
def andT (f g : DT) : DT := fun ρ Q => f ρ fun b => if b = true then g ρ Q else Q false
def orT (f g : DT) : DT := fun ρ Q => f ρ fun b => if b = true then Q true else g ρ Q
def notT (f : DT) : DT := fun ρ Q => f ρ fun b => Q (!b)
theorem td_and {t u : TT} {f g : DT} (h : TD K O t f) (h' : TD K O u g) : TD K O (tAnd t u) (andT f g) := fun σ H ρ Q Qd S hf k => by
 refine h σ H ρ _ _ S hf fun b H1 s1 q => ?_
 cases b with
 | true => exact h' σ H1 ρ _ _ (S.stp s1) q fun c H2 s2 q2 => k c H2 (s1.trans s2) q2
 | false => exact k false H1 s1 q
theorem td_or {t u : TT} {f g : DT} (h : TD K O t f) (h' : TD K O u g) : TD K O (tOr t u) (orT f g) := fun σ H ρ Q Qd S hf k => by
 refine h σ H ρ _ _ S hf fun b H1 s1 q => ?_
 cases b with
 | false => exact h' σ H1 ρ _ _ (S.stp s1) q fun c H2 s2 q2 => k c H2 (s1.trans s2) q2
 | true => exact k true H1 s1 q
theorem td_not {t : TT} {f : DT} (h : TD K O t f) : TD K O (tNot t) (notT f) := fun σ H ρ Q Qd S hf k => h σ H ρ _ _ S hf fun b H1 s1 q => k (!b) H1 s1 q
def andV (f g : DE) : DE := fun ρ Q => f ρ fun r => ∃ b, r.d = .bool b ∧ if b = true then g ρ Q else Q (.o (.bool false))
def notV (f : DE) : DE := fun ρ Q => f ρ fun r => ∃ b, r.d = .bool b ∧ Q (.o (.bool (!b)))
theorem ed_andV {t u : TE} {f g : DE} (h : ED K O t f) (h' : ED K O u g) : ED K O (tAndV t u) (andV f g) := fun σ H ρ Q Qd S hf k => by
 refine h σ H ρ _ _ S hf fun v H1 r s1 o1 ⟨b, e, q⟩ => ?_
 have i := o1.is S.ok S.p
 rw [e] at i
 cases i
 refine ⟨b, rfl, ?_⟩
 cases b with
 | true => exact h' σ H1 ρ _ _ (S.stp s1) q fun c H2 r s2 o2 q2 => k c H2 r (s1.trans s2) (o2.ahead S.ok S.p s1) q2
 | false => exact k (.bl false) H1 (.o (.bool false)) s1 (.bool false) q
theorem ed_notV {t : TE} {f : DE} (h : ED K O t f) : ED K O (tNotV t) (notV f) := fun σ H ρ Q Qd S hf k => by
 refine h σ H ρ _ _ S hf fun v H1 r s1 o1 ⟨b, e, q⟩ => ?_
 have i := o1.is S.ok S.p
 rw [e] at i
 cases i
 exact ⟨b, rfl, k _ H1 (.o (.bool (!b))) s1 (.bool _) q⟩
def ifD (c : DT) (f g : DE) : DE := fun ρ Q => c ρ fun b => if b = true then f ρ Q else g ρ Q
theorem ed_if {c : TT} {t u : TE} {fc : DT} {f g : DE} (hc : TD K O c fc) (h : ED K O t f) (h' : ED K O u g) : ED K O (tIf c t u) (ifD fc f g) := fun σ H ρ Q Qd S hf k => by
 refine hc σ H ρ _ _ S hf fun b H1 s1 q => ?_
 cases b with
 | true => exact h σ H1 ρ _ _ (S.stp s1) q fun v H2 r s2 o2 q2 => k v H2 r (s1.trans s2) (o2.ahead S.ok S.p s1) q2
 | false => exact h' σ H1 ρ _ _ (S.stp s1) q fun v H2 r s2 o2 q2 => k v H2 r (s1.trans s2) (o2.ahead S.ok S.p s1) q2
def aNil : DA := fun _ Q => Q []
def aCons (f : DE) (g : DA) : DA := fun ρ Q => f ρ fun r => g ρ fun ds => Q (r.d :: ds)
theorem ad_nil : AD K O tNil aNil := fun σ H ρ Q Qd S h k => k [] H [] (.refl _ _) .nil h
theorem ad_cons {t : TE} {u : TA} {f : DE} {g : DA} (h : ED K O t f) (h' : AD K O u g) : AD K O (tCons t u) (aCons f g) := fun σ H ρ Q Qd S hf k => by
 refine h σ H ρ _ _ S hf fun v H1 r s1 o1 q => ?_
 refine h' σ H1 ρ _ _ (S.stp s1) q fun vs H2 ds s2 o2 q2 => ?_
 exact k (v :: vs) H2 (r.d :: ds) (s1.trans s2) (.cons (Is.stp s2 (fun _ f => f) (fun _ f => f) (o1.is S.ok S.p)) o2) q2
def tupD (g : DA) : DE := fun ρ Q => g ρ fun ds => ds.length ≤ sizeLine ∧ Q (.o (.tuple ds))
def lstD (g : DA) : DE := fun ρ Q => g ρ fun ds => ds.length ≤ sizeLine ∧ Q (.n ds)
theorem ed_tup {u : TA} {g : DA} (h : AD K O u g) : ED K O (tTup u) (tupD g) := fun σ H ρ Q Qd S hf k => by
 refine h σ H ρ _ _ S hf fun vs H1 ds s1 o1 ⟨z, q⟩ => ⟨by rw [o1.length]; exact z, fun p hp => ?_⟩
 have s2 : Stp O H1 (upd H1 p (.tup vs)) := .new S.ok hp _
 exact k _ _ (.o (.tuple ds)) (s1.trans s2) (.tuple (.of upd_same) (o1.stp s2 (fun _ f => f) (fun _ f => f))) q
theorem ed_lst {u : TA} {g : DA} (h : AD K O u g) : ED K O (tLst u) (lstD g) := fun σ H ρ Q Qd S hf k => by
 refine h σ H ρ _ _ S hf fun vs H1 ds s1 o1 ⟨z, q⟩ => ⟨by rw [o1.length]; exact z, fun p hp => ?_⟩
 have s2 : Stp O H1 (upd H1 p (.lst vs)) := .new S.ok hp _
 have m : ¬ O.M p := fun m => by obtain ⟨o, z⟩ := S.ok.here H1 p (s1.p S.p) m; rw [hp] at z; cases z
 exact k _ _ (.n ds) (s1.trans s2) ⟨p, vs, rfl, s1.s.free m hp, upd_same, o1.stp s2 (fun _ f => f) (fun _ f => f)⟩ q
def CallD (K : PySem.W.Frag) (O : Ob) (r : List V → Hp → VK → Prop) (f : List PyData → (R → Prop) → Prop) : Prop :=
 ∀ (H : Hp) (vs : List V) (ds : List PyData) (Q : VK) (Qd : R → Prop), O.Ok → O.P H → IsAll K (unM O) H vs ds → f ds Qd → (∀ v H' r, Stp O H H' → Out K O H H' v r → Qd r → Q v H') → r vs H Q
def callDE (f : List PyData → (R → Prop) → Prop) (g : DA) : DE := fun ρ Q => g ρ fun ds => f ds Q
theorem ed_callB {r : List V → Hp → VK → Prop} {u : TA} {f : List PyData → (R → Prop) → Prop} {g : DA} (hr : CallD K O r f) (h : AD K O u g) : ED K O (tCB r u) (callDE f g) := fun σ H ρ Q Qd S hf k => by
 refine h σ H ρ _ _ S hf fun vs H1 ds s1 o1 q => ?_
 exact hr H1 vs ds _ _ S.ok (s1.p S.p) o1 q fun v H2 r s2 o2 q2 => k v H2 r (s1.trans s2) (o2.ahead S.ok S.p s1) q2
def fn1 (F : List PyData → Option R) : List PyData → (R → Prop) → Prop := fun ds Q => ∃ r, F ds = some r ∧ Q r
end
end L3
namespace L3
open PySem PySem.Spec
open PyProof.Rows hiding St
open L2
abbrev DG := PyData → DSt → (DSt → Prop) → Prop
def gN (i : Nat) : DG := fun d ρ Q => Q (ρ.set i (some (.im d)))
def gTD : List Nat → List PyData → DSt → (DSt → Prop) → Prop
 | [], [], ρ, Q => Q ρ
 | i :: is, d :: ds, ρ, Q => gTD is ds (ρ.set i (some (.im d))) Q
 | _, _, _, _ => False
def gT (is : List Nat) : DG := fun d ρ Q => ∃ ds, d = .tuple ds ∧ gTD is ds ρ Q
def GS (K : PySem.W.Frag) (O : Ob) (t : TG) (g : DG) : Prop :=
 ∀ (σ : St) (H : Hp) (ρ : DSt) (v : V) (d : PyData) (Q : St → Hp → Prop) (Qd : DSt → Prop), Seen K O H σ ρ → Is K (unM O) H v d → g d ρ Qd → (∀ σ' ρ', Seen K O H σ' ρ' → Qd ρ' → Q σ' H) → t v σ H Q
section
variable {K : PySem.W.Frag} {O : Ob}
theorem Seen.set {H : Hp} {σ : St} {ρ : DSt} {i : Nat} {v : V} {r : DV} (S : Seen K O H σ ρ) (h : SeenV K O H v r) : Seen K O H (σ.set i (some v)) (ρ.set i (some r)) := by
 have hl := S.len
 refine ⟨S.ok, S.p, fun j r' e => ?_, by rw [List.length_set, List.length_set]; exact S.len⟩
 by_cases hj : i = j
 · subst hj
   have hi : i < ρ.length := by
     rcases Nat.lt_or_ge i ρ.length with z | z
     · exact z
     · rw [List.getElem?_eq_none (by simpa using z)] at e; cases e
   rw [List.getElem?_set_self hi] at e
   cases e
   exact ⟨v, List.getElem?_set_self (by omega), h⟩
 · rw [List.getElem?_set_ne hj] at e
   obtain ⟨w, h1, h2⟩ := S.at_ j r' e
   exact ⟨w, by rw [List.getElem?_set_ne hj]; exact h1, h2⟩
theorem gs_name {i : Nat} : GS K O (gName i) (gN i) := fun σ H ρ v d Q Qd S i h k => k _ _ (S.set (r := .im d) i) h
def GSs (K : PySem.W.Frag) (O : Ob) (t : TGs) (is : List Nat) : Prop :=
 ∀ (σ : St) (H : Hp) (ρ : DSt) (vs : List V) (ds : List PyData) (Q : St → Hp → Prop) (Qd : DSt → Prop), Seen K O H σ ρ → IsAll K (unM O) H vs ds → gTD is ds ρ Qd → (∀ σ' ρ', Seen K O H σ' ρ' → Qd ρ' → Q σ' H) → t vs σ H Q
theorem gss_nil : GSs K O gNil [] := fun σ H ρ vs ds Q Qd S i h k => by
 cases i with
 | nil => exact ⟨rfl, k σ ρ S h⟩
 | cons _ _ => exact h.elim
theorem gss_cons {i : Nat} {is : List Nat} {t : TGs} (ht : GSs K O t is) : GSs K O (gCons (gName i) t) (i :: is) := fun σ H ρ vs ds Q Qd S h q k => by
 cases h with
 | nil => exact q.elim
 | cons h1 h2 => exact ⟨_, _, rfl, ht _ H _ _ _ _ _ (S.set (r := .im _) h1) h2 q k⟩
theorem gTD_len : ∀ {is : List Nat} {ds : List PyData} {ρ : DSt} {Q : DSt → Prop}, gTD is ds ρ Q → ds.length = is.length
 | [], [], _, _, _ => rfl
 | [], _ :: _, _, _, h => h.elim
 | _ :: _, [], _, _, h => h.elim
 | _ :: is, _ :: ds, ρ, Q, h => by
   have e := gTD_len (is := is) (ds := ds) (Q := Q) h
   rw [List.length_cons, List.length_cons, e]
theorem gs_tup {is : List Nat} {t : TGs} {n : Nat} (hn : is.length = n) (ht : GSs K O t is) : GS K O (gTup K n t) (gT is) := fun σ H ρ v d Q Qd S i h k => by
 obtain ⟨ds, rfl, h⟩ := h
 cases i with
 | tuple q r => exact ⟨_, _, rfl, q, by rw [r.length, gTD_len h]; exact hn, ht σ H ρ _ ds Q Qd S r h k⟩
structure Walk (K : PySem.W.Frag) (O : Ob) (H H1 : Hp) (J : It) (ds : List PyData) (B : Addr → Prop) : Prop where
 st : Stp O H H1
 hb : ∀ a, B a → ¬ O.M a ∧ ∃ o, H1 a = some o
 stop : ∀ H2 i, (∀ a o, B a → H1 a = some o → H2 a = some o) → TupStay H1 H2 → ds.length ≤ i → J.stop i H2
 item : ∀ H2 i d, (∀ a o, B a → H1 a = some o → H2 a = some o) → TupStay H1 H2 → ds[i]? = some d → (flat d = true ∨ ∀ a o, H1 a = some o → ¬ O.M a → H2 a = some o) →
   J.go i H2 ∧ ∀ x H3, J.yld i H2 x H3 → Same H2 H3 ∧ Is K (fun a => ¬ O.M a ∧ (flat d = true ∨ ∃ o, H1 a = some o)) H3 x d
abbrev DI := DSt → (Bool → List PyData → Prop) → Prop
def SrcS (K : PySem.W.Frag) (O : Ob) (wi : TI) (f : DI) : Prop :=
 ∀ (σ : St) (H : Hp) (ρ : DSt) (R : It → Hp → Prop) (Qd : Bool → List PyData → Prop), Seen K O H σ ρ → f ρ Qd →
   (∀ (J : It) (H1 : Hp) (ds : List PyData) (B : Addr → Prop) (fr : Bool), Walk K O H H1 J ds B → (fr = true → ∀ a, B a → H a = none) → Qd fr ds → R J H1) → wi σ H R
end
def compGo (h : Nat) (g : DG) (ft : DT) (fe : DE) (ρ : DSt) (Q : List PyData → Prop) : List PyData → List PyData → Prop
 | [], acc => Q acc
 | d :: ds, acc => g d (List.replicate h none ++ ρ) fun ρ2 => ft ρ2 fun b => if b = true then fe ρ2 fun r => acc.length < sizeLine ∧ compGo h g ft fe ρ Q ds (acc ++ [r.d]) else compGo h g ft fe ρ Q ds acc
def compD (h : Nat) (f : DI) (g : DG) (ft : DT) (fe : DE) : DE := fun ρ Q => f ρ fun _ ds => compGo h g ft fe ρ (fun es => Q (.n es)) ds []
section
variable {K : PySem.W.Frag} {O : Ob}
theorem seen_pad {H : Hp} {σ : St} {ρ : DSt} (S : Seen K O H σ ρ) (h : Nat) : Seen K O H (List.replicate h none ++ σ) (List.replicate h none ++ ρ) := by
 refine ⟨S.ok, S.p, fun i r e => ?_, by rw [List.length_append, List.length_append, List.length_replicate, List.length_replicate, S.len]⟩
 by_cases hi : i < h
 · rw [List.getElem?_append_left (by simpa using hi), List.getElem?_replicate, if_pos hi] at e
   cases e
 · rw [List.getElem?_append_right (by simpa using Nat.le_of_not_lt hi), List.length_replicate] at e
   obtain ⟨v, h1, h2⟩ := S.at_ _ r e
   exact ⟨v, by rw [List.getElem?_append_right (by simpa using Nat.le_of_not_lt hi), List.length_replicate]; exact h1, h2⟩
theorem seen_plus {H : Hp} {σ : St} {ρ : DSt} {D : Addr} {xs : List V} (S : Seen K O H σ ρ) (hD : H D = none) : Seen K (O.plus D (.lst xs)) (upd H D (.lst xs)) σ ρ := by
 have gr : Same H (upd H D (.lst xs)) := same_new hD _
 refine ⟨S.ok.plus D xs, ⟨S.ok.grow _ _ gr S.p, upd_same⟩, fun i r e => ?_, S.len⟩
 obtain ⟨v, h1, h2⟩ := S.at_ i r e
 have go : ∀ d, Is K (unM O) H v d → Is K (unM (O.plus D (.lst xs))) (upd H D (.lst xs)) v d := fun d z =>
   z.to (fun a ys f q => ⟨fun m => (by
     rcases m with m | rfl
     · exact f m
     · rw [hD] at q; cases q), gr _ _ q⟩) fun a ys q => SqT.stay (h := q) fun b u _ hb => gr b u hb
 refine ⟨v, h1, ?_⟩
 cases r with
 | im d => exact go d h2
 | own ds => exact go _ h2
 | ob => exact h2
 | scr n => exact IsS.to (fun a u f q => ⟨fun m => (by
     rcases m with m | rfl
     · exact f m
     · rw [hD] at q; cases q), gr _ _ q⟩) h2
 | dct ks =>
   obtain ⟨a, n, h2⟩ := h2
   refine ⟨a, fun m => ?_, h2.to fun u q => gr _ _ q⟩
   rcases m with m | rfl
   · exact n m
   · obtain ⟨_, kvs, q, _⟩ := h2
     rw [hD] at q
     cases q
 | gen f ds =>
   obtain ⟨a, ys, e, n, q, z⟩ := h2
   refine ⟨a, ys, e, fun m => ?_, gr _ _ q, z.to (fun a ys f q => ⟨fun m => (by
     rcases m with m | rfl
     · exact f m
     · rw [hD] at q; cases q), gr _ _ q⟩) fun a ys q => SqT.stay (h := q) fun b u _ hb => gr b u hb⟩
   rcases m with m | rfl
   · exact n m
   · rw [hD] at q; cases q
 | rd f ds =>
   obtain ⟨a, ys, e, n, q, z⟩ := h2
   refine ⟨a, ys, e, fun m => ?_, gr _ _ q, z.to (fun a ys f q => ⟨fun m => (by
     rcases m with m | rfl
     · exact f m
     · rw [hD] at q; cases q), gr _ _ q⟩) fun a ys q => SqT.stay (h := q) fun b u _ hb => gr b u hb⟩
   rcases m with m | rfl
   · exact n m
   · rw [hD] at q; cases q
 | exc C ns ds =>
   obtain ⟨ys, e, z⟩ := h2
   have mv : ∀ a u, unM O a → H a = some u → unM (O.plus D (.lst xs)) a ∧ upd H D (.lst xs) a = some u := fun a u f q => ⟨fun m => (by
     rcases m with m | rfl
     · exact f m
     · rw [hD] at q; cases q), gr _ _ q⟩
   exact ⟨ys, e.to mv, z.to (fun a ys f q => mv a _ f q) fun a ys q => SqT.stay (h := q) fun b u _ hb => gr b u hb⟩
 | thg T =>
   obtain ⟨W, hw, z⟩ := h2
   exact ⟨W, fun a w => ⟨fun m => (by
     obtain ⟨n, o, q⟩ := hw a w
     rcases m with m | rfl
     · exact n m
     · rw [hD] at q; cases q), let ⟨o, q⟩ := (hw a w).2; ⟨o, gr _ _ q⟩⟩, T.to (fun a u f q => ⟨fun m => (by
     rcases m with m | rfl
     · exact f m
     · rw [hD] at q; cases q), gr _ _ q⟩) (fun a u w q => ⟨w, gr _ _ q⟩) (fun b u _ hb => gr b u hb) z⟩
 | thr T =>
   obtain ⟨W, hw, z⟩ := h2
   exact ⟨W, fun a w => ⟨fun m => (by
     obtain ⟨n, o, q⟩ := hw a w
     rcases m with m | rfl
     · exact n m
     · rw [hD] at q; cases q), let ⟨o, q⟩ := (hw a w).2; ⟨o, gr _ _ q⟩⟩, T.to (fun a u f q => ⟨fun m => (by
     rcases m with m | rfl
     · exact f m
     · rw [hD] at q; cases q), gr _ _ q⟩) (fun a u w q => ⟨w, gr _ _ q⟩) (fun b u _ hb => gr b u hb) z⟩
theorem ed_comp {h : Nat} {wi : TI} {tg : TG} {tf : TT} {te : TE} {f : DI} {g : DG} {ft : DT} {fe : DE} (hs : SrcS K O wi f) (hg : ∀ O' : Ob, GS K O' tg g)
   (hf : ∀ (D : Addr) (xs : List V), ¬ O.M D → TD K (O.plus D (.lst xs)) tf ft) (he : ∀ (D : Addr) (xs : List V), ¬ O.M D → ED K (O.plus D (.lst xs)) te fe) : ED K O (tComp h wi tg tf te) (compD h f g ft fe) := by
 intro σ H ρ Q Qd S hq k
 refine hs σ H ρ _ _ S hq fun J H1 ds B fr W _ hgo D hD => ?_
 have S1 := S.stp W.st
 have nM : ¬ O.M D := fun m => by obtain ⟨o, z⟩ := S.ok.here H1 D S1.p m; rw [hD] at z; cases z
 have aD : ∀ a o, H1 a = some o → a ≠ D := fun a o e z => by rw [z, hD] at e; cases e
 refine ⟨fun i m ys H2 => m = ds.length - i ∧ i ≤ ds.length ∧ H2 D = some (.lst ys) ∧ (∀ a o, H1 a = some o → ¬ O.M a → H2 a = some o) ∧ TupStay H1 H2 ∧ Seen K (O.plus D (.lst ys)) H2 σ ρ ∧
     ∃ acc, IsAll K (fun a => ¬ (O.M a ∨ a = D)) H2 ys acc ∧ compGo h g ft fe ρ (fun es => Qd (.n es)) (ds.drop i) acc, ⟨ds.length, rfl, Nat.zero_le _, upd_same, fun a o e _ => by rw [upd_ne (aD a o e)]; exact e, fun a u _ e => by rw [upd_ne (aD a u e)]; exact e, seen_plus S1 hD, [], .nil, by simpa using hgo⟩, ?_⟩
 rintro i m ys H2 ⟨rfl, hi, hDy, kp, tst, S2, acc, hacc, go⟩
 refine ⟨hDy, ?_⟩
 have kB : ∀ a o, B a → H1 a = some o → H2 a = some o := fun a o b e => kp a o e (W.hb a b).1
 by_cases hlt : i < ds.length
 · right
   have hd : ds[i]? = some ds[i] := List.getElem?_eq_getElem hlt
   rw [List.drop_eq_getElem_cons hlt] at go
   obtain ⟨hgo1, hy⟩ := W.item H2 i ds[i] kB tst hd (.inr kp)
   refine ⟨hgo1, fun x H3 y => ?_⟩
   obtain ⟨sm, ix⟩ := hy x H3 y
   have st3 : Stp (O.plus D (.lst ys)) H2 H3 := .same S2.ok sm
   have S3 := S2.stp st3
   have ix' : Is K (unM (O.plus D (.lst ys))) H3 x ds[i] := by
     by_cases hfl : flat ds[i] = true
     · exact Is.flat (TupStay.refl H3) ix hfl
     · exact ix.weak fun a ha mm => by
         rcases mm with mm | mm
         · exact ha.1 mm
         · rcases ha.2 with z | ⟨o, z⟩
           · exact hfl z
           · exact aD a o z mm
   refine hg _ _ H3 _ x ds[i] _ _ (seen_pad S3 h) ix' go fun σ2 ρ2 Sg q => ?_
   refine hf D ys nM σ2 H3 ρ2 _ _ Sg q fun b H4 st4 q4 => ?_
   have st34 := st3.trans st4
   have acc4 : ∀ {H' : Hp}, Stp (O.plus D (.lst ys)) H2 H' → IsAll K (fun a => ¬ (O.M a ∨ a = D)) H' ys acc := fun st => hacc.stp st (fun _ z => z) (fun _ z => z)
   cases b with
   | false =>
     refine ⟨ds.length - (i + 1), by omega, rfl, hlt, st34.s D _ hDy |> fun z => (st34.p S2.p).2, fun a o e n => ?_, fun a u hu e => st34.t a u hu (tst a u hu e), S2.stp st34, acc, acc4 st34, q4⟩
     exact st34.s a o (kp a o e n) fun mm => by
       rcases mm with mm | mm
       · exact n mm
       · exact aD a o e mm
   | true =>
     refine he D ys nM σ2 H4 ρ2 _ _ (Sg.stp st4) q4 fun yv H5 r st5 o5 ⟨hz, q5⟩ => ?_
     have st25 := st34.trans st5
     have S5 := S2.stp st25
     have hD5 : H5 D = some (.lst ys) := (st25.p S2.p).2
     have iy := o5.is (Sg.stp st4).ok (Sg.stp st4).p
     have a5 := acc4 st25
     refine ⟨hD5, by rw [hacc.length]; exact hz, ds.length - (i + 1), by omega, rfl, hlt, upd_same, fun a o e n => ?_, fun a u hu e => ?_, ?_, acc ++ [r.d], ?_, q5⟩
     · rw [upd_ne (aD a o e)]
       exact st25.s a o (kp a o e n) fun mm => by
         rcases mm with mm | mm
         · exact n mm
         · exact aD a o e mm
     · rw [upd_ne (aD a u e)]
       exact st25.t a u hu (tst a u hu e)
     · have p5 : O.P (upd H5 D (.lst (ys ++ [yv]))) := S.ok.loc H5 _ (fun a m => upd_ne fun z => nM (z ▸ m)) S5.p.1
       refine ⟨S.ok.plus D _, ⟨p5, upd_same⟩, fun j r' e => ?_, S5.len⟩
       obtain ⟨v', h1, h2⟩ := S5.at_ j r' e
       have go : ∀ d, Is K (unM (O.plus D (.lst ys))) H5 v' d → Is K (unM (O.plus D (.lst (ys ++ [yv])))) (upd H5 D (.lst (ys ++ [yv]))) v' d := fun d z =>
         z.to (fun a xs fa qa => ⟨fa, by rw [upd_ne fun z => fa (.inr z)]; exact qa⟩) fun a xs qa => SqT.stay (h := qa) fun b u hu hb => by
           rw [upd_ne fun z => ?_]
           · exact hb
           · obtain ⟨us, e1 | ⟨o', e1⟩⟩ := hu <;> (rw [z, hD5] at hb; cases hb; cases e1)
       refine ⟨v', h1, ?_⟩
       cases r' with
       | im d => exact go d h2
       | own es => exact go _ h2
       | ob => exact h2
       | scr n => exact IsS.to (fun a u fa qa => ⟨fa, by rw [upd_ne fun z => fa (.inr z)]; exact qa⟩) h2
       | dct ks => obtain ⟨a, fa, h2⟩ := h2; exact ⟨a, fa, h2.to fun u qa => by rw [upd_ne fun z => fa (.inr z)]; exact qa⟩
       | gen f ds =>
         obtain ⟨a, xs, e, fa, q, z⟩ := h2
         refine ⟨a, xs, e, fa, by rw [upd_ne fun z => fa (.inr z)]; exact q, z.to (fun a xs fa qa => ⟨fa, by rw [upd_ne fun z => fa (.inr z)]; exact qa⟩) fun a xs qa => SqT.stay (h := qa) fun b u hu hb => ?_⟩
         rw [upd_ne fun z => ?_]
         · exact hb
         · obtain ⟨us, e1 | ⟨o', e1⟩⟩ := hu <;> (rw [z, hD5] at hb; cases hb; cases e1)
       | rd f ds =>
         obtain ⟨a, xs, e, fa, q, z⟩ := h2
         refine ⟨a, xs, e, fa, by rw [upd_ne fun z => fa (.inr z)]; exact q, z.to (fun a xs fa qa => ⟨fa, by rw [upd_ne fun z => fa (.inr z)]; exact qa⟩) fun a xs qa => SqT.stay (h := qa) fun b u hu hb => ?_⟩
         rw [upd_ne fun z => ?_]
         · exact hb
         · obtain ⟨us, e1 | ⟨o', e1⟩⟩ := hu <;> (rw [z, hD5] at hb; cases hb; cases e1)
       | exc C ns ds =>
         obtain ⟨xs, e, z⟩ := h2
         have mv : ∀ a u, unM (O.plus D (.lst ys)) a → H5 a = some u → unM (O.plus D (.lst (ys ++ [yv]))) a ∧ upd H5 D (.lst (ys ++ [yv])) a = some u := fun a u fa qa => ⟨fa, by rw [upd_ne fun z => fa (.inr z)]; exact qa⟩
         refine ⟨xs, e.to mv, z.to (fun a xs fa qa => mv a _ fa qa) fun a xs qa => SqT.stay (h := qa) fun b u hu hb => ?_⟩
         rw [upd_ne fun z => ?_]
         · exact hb
         · obtain ⟨us, e1 | ⟨o', e1⟩⟩ := hu <;> (rw [z, hD5] at hb; cases hb; cases e1)
       | thg T =>
         obtain ⟨W, hw, z⟩ := h2
         refine ⟨W, fun a w => ⟨(hw a w).1, let ⟨o, q⟩ := (hw a w).2; ⟨o, by rw [upd_ne fun z => (hw a w).1 (.inr z)]; exact q⟩⟩, T.to (fun a u fa qa => ⟨fa, by rw [upd_ne fun z => fa (.inr z)]; exact qa⟩) (fun a u w q => ⟨w, by rw [upd_ne fun z => (hw a w).1 (.inr z)]; exact q⟩) (fun b u hu hb => ?_) z⟩
         rw [upd_ne fun z => ?_]
         · exact hb
         · obtain ⟨us, e1 | ⟨o', e1⟩⟩ := hu <;> (rw [z, hD5] at hb; cases hb; cases e1)
       | thr T =>
         obtain ⟨W, hw, z⟩ := h2
         refine ⟨W, fun a w => ⟨(hw a w).1, let ⟨o, q⟩ := (hw a w).2; ⟨o, by rw [upd_ne fun z => (hw a w).1 (.inr z)]; exact q⟩⟩, T.to (fun a u fa qa => ⟨fa, by rw [upd_ne fun z => fa (.inr z)]; exact qa⟩) (fun a u w q => ⟨w, by rw [upd_ne fun z => (hw a w).1 (.inr z)]; exact q⟩) (fun b u hu hb => ?_) z⟩
         rw [upd_ne fun z => ?_]
         · exact hb
         · obtain ⟨us, e1 | ⟨o', e1⟩⟩ := hu <;> (rw [z, hD5] at hb; cases hb; cases e1)
     · have mv : ∀ {vs es}, IsAll K (fun a => ¬ (O.M a ∨ a = D)) H5 vs es → IsAll K (fun a => ¬ (O.M a ∨ a = D)) (upd H5 D (.lst (ys ++ [yv]))) vs es := fun z =>
         z.to (fun a xs fa qa => ⟨fa, by rw [upd_ne fun z => fa (.inr z)]; exact qa⟩) fun a xs qa => SqT.stay (h := qa) fun b u hu hb => by
           rw [upd_ne fun z => ?_]
           · exact hb
           · obtain ⟨us, e1 | ⟨o', e1⟩⟩ := hu <;> (rw [z, hD5] at hb; cases hb; cases e1)
       exact mv (a5.snoc iy)
 · left
   have e : i = ds.length := by omega
   subst e
   rw [List.drop_length] at go
   refine ⟨W.stop H2 _ kB tst (Nat.le_refl _), k _ H2 (.n acc) ?_ ⟨D, ys, rfl, W.st.s.free nM hD, hDy, hacc.weak fun a z m => z (.inl m)⟩ go⟩
   refine W.st.trans ⟨fun a o e n => kp a o e n, fun _ => S2.p.1, tst⟩
end
end L3
namespace L3
open PySem PySem.Spec
open PyProof.Rows hiding St
open L2
section
variable {K : PySem.W.Frag} {O : Ob}
theorem item_at {H1 H2 : Hp} {xs : List V} {ds : List PyData} {i : Nat} {d : PyData} (h : IsAll K (unM O) H1 xs ds) (hd : ds[i]? = some d) (t : TupStay H1 H2) (c : flat d = true ∨ ∀ a o, H1 a = some o → ¬ O.M a → H2 a = some o) :
   ∃ v, xs[i]? = some v ∧ Is K (fun a => ¬ O.M a ∧ (flat d = true ∨ ∃ o, H1 a = some o)) H2 v d := by
 obtain ⟨v, hv, iv⟩ := h.get hd
 refine ⟨v, hv, ?_⟩
 rcases c with c | c
 · exact Is.flat t iv c
 · exact iv.to (fun a ys f q => ⟨⟨f, .inr ⟨_, q⟩⟩, c a _ q f⟩) fun a ys q => SqT.stay (h := q) t
def R.isN : R → Bool
 | .n _ => true
 | .o _ => false
def srcL (f : DE) : DI := fun ρ Q => f ρ fun r => ∃ ds, r.d = .list ds ∧ Q r.isN ds
theorem src_list {t : TE} {f : DE} (h : ED K O t f) : SrcS K O (iList K t) (srcL f) := fun σ H ρ R Qd S hf k => by
 refine h σ H ρ _ _ S hf fun v H1 r st o1 ⟨ds, e, q⟩ => ?_
 have i1 := o1.is S.ok S.p
 rw [e] at i1
 cases i1 with
 | list f0 ha hs =>
   rename_i a xs
   refine ⟨a, rfl, ⟨xs, .of ha⟩, k (Itl K a) H1 ds (fun b => b = a) r.isN ⟨st, fun b hb => by subst hb; exact ⟨f0, _, ha⟩, fun H2 i kb _ hi => ?_, fun H2 i d kb t2 hd c => ?_⟩ (fun z b hb => ?_) q⟩
   · exact ⟨xs, .of (kb a _ rfl ha), by rw [hs.length]; exact hi⟩
   · obtain ⟨w, hw, iw⟩ := item_at (O := O) hs hd t2 c
     have q2 : SqL K H2 a xs := .of (kb a _ rfl ha)
     refine ⟨⟨xs, w, q2, hw⟩, fun x H3 ⟨e3, y⟩ => ?_⟩
     subst e3
     have := y xs q2
     rw [hw] at this
     cases this
     exact ⟨Same.refl _, iw⟩
   · subst hb
     cases r with
     | o d => cases z
     | n es =>
       obtain ⟨a', xs', e', hn, _⟩ := o1
       cases e'
       exact hn
def srcT (f : DE) : DI := fun ρ Q => f ρ fun r => ∃ ds, r.d = .tuple ds ∧ Q true ds
theorem src_tup {t : TE} {f : DE} (h : ED K O t f) : SrcS K O (iTup K t) (srcT f) := fun σ H ρ R Qd S hf k => by
 refine h σ H ρ _ _ S hf fun v H1 r st o1 ⟨ds, e, q⟩ => ?_
 have i1 := o1.is S.ok S.p
 rw [e] at i1
 cases i1 with
 | tuple ha hs =>
   rename_i a xs
   refine ⟨a, rfl, ⟨xs, ha⟩, k (Itt K a) H1 ds (fun _ => False) true ⟨st, fun b hb => hb.elim, fun H2 i kb t2 hi => ?_, fun H2 i d kb t2 hd c => ?_⟩ (fun z b hb => hb.elim) q⟩
   · exact ⟨xs, SqT.stay t2 ha, by rw [hs.length]; exact hi⟩
   · obtain ⟨w, hw, iw⟩ := item_at (O := O) hs hd t2 c
     have q2 : SqT K H2 a xs := SqT.stay t2 ha
     refine ⟨⟨xs, w, q2, hw⟩, fun x H3 ⟨e3, y⟩ => ?_⟩
     subst e3
     have := y xs q2
     rw [hw] at this
     cases this
     exact ⟨Same.refl _, iw⟩
def numsD (lo : Int) (n : Nat) : List PyData := (List.range n).map fun k => .int (lo + (k : Nat))
theorem numsD_get {lo : Int} {n i : Nat} {d : PyData} (h : (numsD lo n)[i]? = some d) : i < n ∧ d = .int (lo + (i : Nat)) := by
 unfold numsD at h
 rw [List.getElem?_map] at h
 by_cases hi : i < n
 · rw [List.getElem?_range hi] at h
   cases h
   exact ⟨hi, rfl⟩
 · rw [List.getElem?_eq_none (by simpa using hi)] at h
   cases h
theorem walk_ints {H H1 : Hp} (st : Stp O H H1) (lo : Int) (n : Nat) : Walk K O H H1 (Itr lo n) (numsD lo n) (fun _ => False) :=
 ⟨st, fun b hb => hb.elim, fun H2 i _ _ hi => (show n ≤ i by simpa [numsD] using hi), fun H2 i d _ t2 hd c => by
   obtain ⟨hi, rfl⟩ := numsD_get hd
   refine ⟨hi, fun x H3 ⟨e3, y⟩ => ?_⟩
   subst e3 y
   exact ⟨Same.refl _, .int _⟩⟩
def srcR1 (g : DA) : DI := fun ρ Q => g ρ fun ds => ∃ j : Int, ds = [.int j] ∧ -(2 ^ 62) ≤ j ∧ j < 2 ^ 62 ∧ Q true (numsD 0 j.toNat)
theorem src_rng1 {t : TA} {g : DA} (h : AD K O t g) : SrcS K O (iRng1 t) (srcR1 g) := fun σ H ρ R Qd S hf k => by
 refine h σ H ρ _ _ S hf fun vs H1 ds st is ⟨j, e, b1, b2, q⟩ => ?_
 subst e
 cases is with
 | cons i0 is =>
   cases is
   cases i0
   exact ⟨j, rfl, b1, b2, k _ H1 _ _ true (walk_ints st 0 j.toNat) (fun _ _ hb => hb.elim) q⟩
end
def sg (c : Nat) : Str := ⟨#[c]⟩
structure DEnds where
 nx : DSt → Prop
 rt : R → Prop
 bk : DSt → Prop := fun _ => False
 ct : DSt → Prop := fun _ => False
abbrev DS := DEnds → DSt → Prop
def unO (O : Ob) (A : Nat → Addr → Prop) : Addr → Prop := fun a => ¬ O.M a ∧ ∀ j, ¬ A j a
def OwnO (o : HO) : Prop := ∀ us, o ≠ .tup us ∧ ∀ o', o ≠ .frz o' (.tup us)
theorem OwnO.lst {xs : List V} : OwnO (.lst xs) := fun _ => ⟨fun z => (nomatch z), fun _ z => (nomatch z)⟩
def RepV (K : PySem.W.Frag) (O : Ob) (A : Nat → Addr → Prop) (H : Hp) (i : Nat) (v : V) : DV → Prop
 | .im d => Is K (unO O A) H v d
 | .own ds => ∃ a xs, v = .ref a ∧ A i a ∧ H a = some (.lst xs) ∧ IsAll K (unO O A) H xs ds
 | .ob => v = O.v
 | .scr n => IsS K (unO O A) H v n
 | .dct ks => ∃ a, A i a ∧ DkAt H v a ks
 | .gen f ds => ∃ a xs, v = .ref a ∧ A i a ∧ H a = some (f a xs) ∧ IsAll K (unO O A) H xs ds
 | .rd f ds => ∃ a xs, v = .ref a ∧ unO O A a ∧ H a = some (f a xs) ∧ IsAll K (unO O A) H xs ds
 | .exc C ns ds => ∃ xs, ExAt (unO O A) H v C ns xs ∧ IsAll K (unO O A) H xs ds
 | .thg T => T.R K (unO O A) (A i) H v
 | .thr T => ∃ W : Addr → Prop, (∀ a, W a → unO O A a ∧ ∃ o, H a = some o) ∧ T.R K (unO O A) W H v
structure Rep (K : PySem.W.Frag) (O : Ob) (H₀ : Hp) (A : Nat → Addr → Prop) (H : Hp) (σ : St) (ρ : DSt) : Prop where
 ok : O.Ok
 p : O.P H
 p0 : O.P H₀
 st : Stp O H₀ H
 dis : ∀ i j a, A i a → A j a → i = j
 own : ∀ i a, A i a → H₀ a = none ∧ (∃ o, H a = some o ∧ OwnO o) ∧ ¬ O.M a
 at_ : ∀ (i : Nat) r, ρ[i]? = some (some r) → ∃ v, σ[i]? = some (some v) ∧ RepV K O A H i v r
 len : ρ.length = σ.length
def Frm (O : Ob) (A : Nat → Addr → Prop) (H : Hp) (A' : Nat → Addr → Prop) (H' : Hp) : Prop := ∀ a o, H a = some o → unO O A a → H' a = some o ∧ unO O A' a
theorem Frm.refl {O : Ob} {A : Nat → Addr → Prop} {H : Hp} : Frm O A H A H := fun _ _ h u => ⟨h, u⟩
theorem Frm.trans {O : Ob} {A A1 A2 : Nat → Addr → Prop} {H H1 H2 : Hp} (a : Frm O A H A1 H1) (b : Frm O A1 H1 A2 H2) : Frm O A H A2 H2 := fun c o h u => let ⟨h1, u1⟩ := a c o h u; b c o h1 u1
structure Post (K : PySem.W.Frag) (O : Ob) (H₀ : Hp) (A : Nat → Addr → Prop) (H : Hp) (D : Ends) (Dd : DEnds) : Prop where
 nx : ∀ A' σ' H' ρ', Rep K O H₀ A' H' σ' ρ' → Frm O A H A' H' → Dd.nx ρ' → D.nx σ' H'
 bk : ∀ A' σ' H' ρ', Rep K O H₀ A' H' σ' ρ' → Frm O A H A' H' → Dd.bk ρ' → D.bk σ' H'
 ct : ∀ A' σ' H' ρ', Rep K O H₀ A' H' σ' ρ' → Frm O A H A' H' → Dd.ct ρ' → D.ct σ' H'
 rt : ∀ H' v r, Stp O H₀ H' → Out K O H₀ H' v r → Dd.rt r → D.rt v H'
def SD (K : PySem.W.Frag) (O : Ob) (t : TS) (g : DS) : Prop :=
 ∀ (H₀ : Hp) (A : Nat → Addr → Prop) (σ : St) (H : Hp) (ρ : DSt) (D : Ends) (Dd : DEnds), Rep K O H₀ A H σ ρ → g Dd ρ → Post K O H₀ A H D Dd → t D σ H
section
variable {K : PySem.W.Frag} {O : Ob} {H₀ H H' : Hp} {A : Nat → Addr → Prop} {σ : St} {ρ : DSt}
theorem Rep.seen (r : Rep K O H₀ A H σ ρ) : Seen K O H σ ρ := by
 refine ⟨r.ok, r.p, fun i x e => ?_, r.len⟩
 obtain ⟨v, hv, h⟩ := r.at_ i x e
 refine ⟨v, hv, ?_⟩
 cases x with
 | im d => exact h.weak fun a u => u.1
 | own ds =>
   obtain ⟨a, xs, rfl, ha, hl, hs⟩ := h
   exact .list (r.own i a ha).2.2 hl (hs.weak fun a u => u.1)
 | ob => exact h
 | scr n => exact IsS.to (fun a u f q => ⟨f.1, q⟩) h
 | dct ks => obtain ⟨a, ha, h⟩ := h; exact ⟨a, (r.own i a ha).2.2, h⟩
 | gen f ds => obtain ⟨a, xs, e, ha, q, z⟩ := h; exact ⟨a, xs, e, (r.own i a ha).2.2, q, z.weak fun a u => u.1⟩
 | rd f ds => obtain ⟨a, xs, e, ha, q, z⟩ := h; exact ⟨a, xs, e, ha.1, q, z.weak fun a u => u.1⟩
 | exc C ns ds => obtain ⟨xs, e, z⟩ := h; exact ⟨xs, e.to fun a u f q => ⟨f.1, q⟩, z.weak fun a u => u.1⟩
 | thg T => exact ⟨A i, fun a w => ⟨(r.own i a w).2.2, let ⟨o, q, _⟩ := (r.own i a w).2.1; ⟨o, q⟩⟩, T.to (fun a u f q => ⟨f.1, q⟩) (fun a u w q => ⟨w, q⟩) (TupStay.refl _) h⟩
 | thr T => obtain ⟨W, hw, z⟩ := h; exact ⟨W, fun a w => ⟨(hw a w).1.1, (hw a w).2⟩, T.to (fun a u f q => ⟨f.1, q⟩) (fun a u w q => ⟨w, q⟩) (TupStay.refl _) z⟩
theorem Rep.stp (r : Rep K O H₀ A H σ ρ) (s : Stp O H H') : Rep K O H₀ A H' σ ρ := by
 refine ⟨r.ok, s.p r.p, r.p0, r.st.trans s, r.dis, fun i a ha => ?_, fun i x e => ?_, r.len⟩
 · obtain ⟨h0, ⟨xs, hx, ho⟩, hm⟩ := r.own i a ha
   exact ⟨h0, ⟨xs, s.s a _ hx hm, ho⟩, hm⟩
 · obtain ⟨v, hv, h⟩ := r.at_ i x e
   refine ⟨v, hv, ?_⟩
   cases x with
   | im d => exact Is.stp s (fun _ z => z) (fun _ z => z.1) h
   | own ds =>
     obtain ⟨a, xs, rfl, ha, hl, hs⟩ := h
     exact ⟨a, xs, rfl, ha, s.s a _ hl (r.own i a ha).2.2, hs.stp s (fun _ z => z) (fun _ z => z.1)⟩
   | ob => exact h
   | scr n => exact IsS.to (fun a u f q => ⟨f, s.s a u q f.1⟩) h
   | dct ks => obtain ⟨a, ha, h⟩ := h; exact ⟨a, ha, h.to fun u q => s.s a u q (r.own i a ha).2.2⟩
   | gen f ds => obtain ⟨a, xs, e, ha, q, z⟩ := h; exact ⟨a, xs, e, ha, s.s a _ q (r.own i a ha).2.2, z.stp s (fun _ z => z) (fun _ z => z.1)⟩
   | rd f ds => obtain ⟨a, xs, e, ha, q, z⟩ := h; exact ⟨a, xs, e, ha, s.s a _ q ha.1, z.stp s (fun _ z => z) (fun _ z => z.1)⟩
   | exc C ns ds => obtain ⟨xs, e, z⟩ := h; exact ⟨xs, e.to fun a u f q => ⟨f, s.s a u q f.1⟩, z.stp s (fun _ z => z) (fun _ z => z.1)⟩
   | thg T => exact T.to (fun a u f q => ⟨f, s.s a u q f.1⟩) (fun a u w q => ⟨w, s.s a u q (r.own i a w).2.2⟩) s.t h
   | thr T => obtain ⟨W, hw, z⟩ := h; exact ⟨W, fun a w => let ⟨f, o, q⟩ := hw a w; ⟨f, o, s.s a o q f.1⟩, T.to (fun a u f q => ⟨f, s.s a u q f.1⟩) (fun a u w q => ⟨w, s.s a u q (hw a w).1.1⟩) s.t z⟩
theorem Frm.stp (s : Stp O H H') : Frm O A H A H' := fun a o e u => ⟨s.s a o e u.1, u⟩
theorem Rep.setIm {i : Nat} {v : V} {d : PyData} (r : Rep K O H₀ A H σ ρ) (h : Is K (unO O A) H v d) : Rep K O H₀ (fun j a => j ≠ i ∧ A j a) H (σ.set i (some v)) (ρ.set i (some (.im d))) := by
 have un : ∀ a, unO O A a → unO O (fun j a => j ≠ i ∧ A j a) a := fun a u => ⟨u.1, fun j z => u.2 j z.2⟩
 refine ⟨r.ok, r.p, r.p0, r.st, fun j k a x y => r.dis j k a x.2 y.2, fun j a x => r.own j a x.2, fun j x e => ?_, by rw [List.length_set, List.length_set]; exact r.len⟩
 by_cases hj : i = j
 · subst hj
   have hi : i < ρ.length := by
     rcases Nat.lt_or_ge i ρ.length with z | z
     · exact z
     · rw [List.getElem?_eq_none (by simpa using z)] at e; cases e
   rw [List.getElem?_set_self hi] at e
   cases e
   exact ⟨v, List.getElem?_set_self (by have := r.len; omega), h.weak un⟩
 · rw [List.getElem?_set_ne hj] at e
   obtain ⟨w, h1, h2⟩ := r.at_ j x e
   refine ⟨w, by rw [List.getElem?_set_ne hj]; exact h1, ?_⟩
   cases x with
   | im d => exact h2.weak un
   | own ds =>
     obtain ⟨a, xs, rfl, ha, hl, hs⟩ := h2
     exact ⟨a, xs, rfl, ⟨fun z => hj z.symm, ha⟩, hl, hs.weak un⟩
   | ob => exact h2
   | scr n => exact IsS.to (fun a u f q => ⟨un a f, q⟩) h2
   | dct ks => obtain ⟨a, ha, h2⟩ := h2; exact ⟨a, ⟨fun z => hj z.symm, ha⟩, h2⟩
   | gen f ds => obtain ⟨a, xs, e, ha, q, z⟩ := h2; exact ⟨a, xs, e, ⟨fun z => hj z.symm, ha⟩, q, z.weak un⟩
   | rd f ds => obtain ⟨a, xs, e, ha, q, z⟩ := h2; exact ⟨a, xs, e, un a ha, q, z.weak un⟩
   | exc C ns ds => obtain ⟨xs, e, z⟩ := h2; exact ⟨xs, e.to fun a u f q => ⟨un a f, q⟩, z.weak un⟩
   | thg T => exact T.to (fun a u f q => ⟨un a f, q⟩) (fun a u w q => ⟨⟨fun z => hj z.symm, w⟩, q⟩) (TupStay.refl _) h2
   | thr T => obtain ⟨W, hw, z⟩ := h2; exact ⟨W, fun a w => ⟨un a (hw a w).1, (hw a w).2⟩, T.to (fun a u f q => ⟨un a f, q⟩) (fun a u w q => ⟨w, q⟩) (TupStay.refl _) z⟩
theorem Rep.setOwn {i : Nat} {a : Addr} {xs : List V} {ds : List PyData} (r : Rep K O H₀ A H σ ρ) (s : Stp O H H') (hn : H a = none) (hl : H' a = some (.lst xs)) (hf : IsAll K (unM O) H' xs ds) (fl : flats ds = true) :
   Rep K O H₀ (fun j b => (j ≠ i ∧ A j b) ∨ (j = i ∧ b = a)) H' (σ.set i (some (.ref a))) (ρ.set i (some (.own ds))) := by
 have hm : ¬ O.M a := fun m => by obtain ⟨o, z⟩ := r.ok.here H a r.p m; rw [hn] at z; cases z
 have new : ∀ j, ¬ A j a := fun j z => by obtain ⟨_, ⟨ys, q, _⟩, _⟩ := r.own j a z; rw [hn] at q; cases q
 have un : ∀ b o, H b = some o → unO O A b → unO O (fun j b => (j ≠ i ∧ A j b) ∨ (j = i ∧ b = a)) b := fun b o e u => ⟨u.1, fun j z => by
   rcases z with z | z
   · exact u.2 j z.2
   · rw [z.2, hn] at e; cases e⟩
 have mv : ∀ {v d}, Is K (unO O A) H v d → Is K (unO O (fun j b => (j ≠ i ∧ A j b) ∨ (j = i ∧ b = a))) H' v d := fun z =>
   z.to (fun b ys f q => ⟨un b _ q f, s.s b _ q f.1⟩) fun b ys q => SqT.stay (h := q) s.t
 have mvs : ∀ {v d}, IsAll K (unO O A) H v d → IsAll K (unO O (fun j b => (j ≠ i ∧ A j b) ∨ (j = i ∧ b = a))) H' v d := fun z =>
   z.to (fun b ys f q => ⟨un b _ q f, s.s b _ q f.1⟩) fun b ys q => SqT.stay (h := q) s.t
 refine ⟨r.ok, s.p r.p, r.p0, r.st.trans s, fun j k b x y => ?_, fun j b x => ?_, fun j x e => ?_, by rw [List.length_set, List.length_set]; exact r.len⟩
 · rcases x with x | x <;> rcases y with y | y
   · exact r.dis j k b x.2 y.2
   · exact absurd (y.2 ▸ x.2) (new j)
   · exact absurd (x.2 ▸ y.2) (new k)
   · exact x.1.trans y.1.symm
 · rcases x with x | x
   · obtain ⟨h0, ⟨ys, q, ho⟩, m⟩ := r.own j b x.2
     exact ⟨h0, ⟨ys, s.s b _ q m, ho⟩, m⟩
   · obtain ⟨rfl, rfl⟩ := x
     exact ⟨r.st.s.free hm hn, ⟨_, hl, .lst⟩, hm⟩
 · by_cases hj : i = j
   · subst hj
     have hi : i < ρ.length := by
       rcases Nat.lt_or_ge i ρ.length with z | z
       · exact z
       · rw [List.getElem?_eq_none (by simpa using z)] at e; cases e
     rw [List.getElem?_set_self hi] at e
     cases e
     exact ⟨.ref a, List.getElem?_set_self (by have := r.len; omega), a, xs, rfl, .inr ⟨rfl, rfl⟩, hl, IsAll.flats (TupStay.refl H') hf fl⟩
   · rw [List.getElem?_set_ne hj] at e
     obtain ⟨w, h1, h2⟩ := r.at_ j x e
     refine ⟨w, by rw [List.getElem?_set_ne hj]; exact h1, ?_⟩
     cases x with
     | im d => exact mv h2
     | own es =>
       obtain ⟨b, ys, rfl, hb, hlb, hs⟩ := h2
       exact ⟨b, ys, rfl, .inl ⟨fun z => hj z.symm, hb⟩, s.s b _ hlb (r.own j b hb).2.2, mvs hs⟩
     | ob => exact h2
     | scr n => exact IsS.to (fun b u f q => ⟨un b u q f, s.s b u q f.1⟩) h2
     | dct ks => obtain ⟨b, hb, h2⟩ := h2; exact ⟨b, .inl ⟨fun z => hj z.symm, hb⟩, h2.to fun u q => s.s b u q (r.own j b hb).2.2⟩
     | gen f ds => obtain ⟨b, xs, e, hb, q, z⟩ := h2; exact ⟨b, xs, e, .inl ⟨fun z => hj z.symm, hb⟩, s.s b _ q (r.own j b hb).2.2, mvs z⟩
     | rd f ds => obtain ⟨b, xs, e, hb, q, z⟩ := h2; exact ⟨b, xs, e, un b _ q hb, s.s b _ q hb.1, mvs z⟩
     | exc C ns ds => obtain ⟨xs, e, z⟩ := h2; exact ⟨xs, e.to fun b u f q => ⟨un b _ q f, s.s b _ q f.1⟩, mvs z⟩
     | thg T => exact T.to (fun b u f q => ⟨un b u q f, s.s b u q f.1⟩) (fun b u w q => ⟨.inl ⟨fun z => hj z.symm, w⟩, s.s b u q (r.own j b w).2.2⟩) s.t h2
     | thr T => obtain ⟨W, hw, z⟩ := h2; exact ⟨W, fun b w => let ⟨f, o, q⟩ := hw b w; ⟨un b o q f, o, s.s b o q f.1⟩, T.to (fun b u f q => ⟨un b u q f, s.s b u q f.1⟩) (fun b u w q => ⟨w, s.s b u q (hw b w).1.1⟩) s.t z⟩
theorem Frm.setIm {i : Nat} (s : Stp O H H') : Frm O A H (fun j a => j ≠ i ∧ A j a) H' := fun a o e u => ⟨s.s a o e u.1, u.1, fun j z => u.2 j z.2⟩
theorem Frm.setOwn {i : Nat} {a : Addr} (s : Stp O H H') (hn : H a = none) : Frm O A H (fun j b => (j ≠ i ∧ A j b) ∨ (j = i ∧ b = a)) H' := fun b o e u => ⟨s.s b o e u.1, u.1, fun j z => by
 rcases z with z | z
 · exact u.2 j z.2
 · rw [z.2, hn] at e; cases e⟩
theorem Rep.change {i : Nat} {a : Addr} {ys : List V} {ds es : List PyData} (r : Rep K O H₀ A H σ ρ) (e : ρ[i]? = some (some (.own ds))) (hv : σ[i]? = some (some (.ref a))) (ha : A i a) (hs : IsAll K (unO O A) H ys es) :
   Rep K O H₀ A (upd H a (.lst ys)) σ (ρ.set i (some (.own es))) := by
 obtain ⟨h0, ⟨oo, hz, hoo⟩, hm⟩ := r.own i a ha
 have ts : TupStay H (upd H a (.lst ys)) := fun b u hu hb => by
   rw [upd_ne fun z => ?_]
   · exact hb
   · rw [z, hz] at hb
     cases hb
     obtain ⟨us, e1 | ⟨o', e1⟩⟩ := hu
     · exact absurd e1 (hoo us).1
     · exact absurd e1 ((hoo us).2 o')
 have mv : ∀ {v d}, Is K (unO O A) H v d → Is K (unO O A) (upd H a (.lst ys)) v d := fun z => z.to (fun b us f q => ⟨f, by rw [upd_ne (show b ≠ a from fun w => f.2 i (by rw [w]; exact ha))]; exact q⟩) fun b us q => SqT.stay (h := q) ts
 have mvs : ∀ {v d}, IsAll K (unO O A) H v d → IsAll K (unO O A) (upd H a (.lst ys)) v d := fun z => z.to (fun b us f q => ⟨f, by rw [upd_ne (show b ≠ a from fun w => f.2 i (by rw [w]; exact ha))]; exact q⟩) fun b us q => SqT.stay (h := q) ts
 have pp : O.P (upd H a (.lst ys)) := r.ok.loc H _ (fun b m => upd_ne fun z => hm (z ▸ m)) r.p
 refine ⟨r.ok, pp, r.p0, ⟨fun b o hb n => ?_, fun _ => pp, fun b u hu hb => ts b u hu (r.st.t b u hu hb)⟩, r.dis, fun j b hb => ?_, fun j x ej => ?_, by rw [List.length_set]; exact r.len⟩
 · rw [upd_ne fun z => ?_]
   · exact r.st.s b o hb n
   · rw [z, h0] at hb; cases hb
 · obtain ⟨k0, ⟨us, k1, ko⟩, k2⟩ := r.own j b hb
   by_cases hba : b = a
   · subst hba; exact ⟨k0, ⟨_, upd_same, .lst⟩, k2⟩
   · exact ⟨k0, ⟨us, by rw [upd_ne hba]; exact k1, ko⟩, k2⟩
 · by_cases hj : i = j
   · subst hj
     have hi : i < ρ.length := (List.getElem?_eq_some_iff.mp e).1
     rw [List.getElem?_set_self hi] at ej
     cases ej
     exact ⟨.ref a, hv, a, ys, rfl, ha, upd_same, mvs hs⟩
   · rw [List.getElem?_set_ne hj] at ej
     obtain ⟨w, h1, h2⟩ := r.at_ j x ej
     refine ⟨w, h1, ?_⟩
     cases x with
     | im d => exact mv h2
     | own fs =>
       obtain ⟨b, us, rfl, hb, hlb, hs2⟩ := h2
       exact ⟨b, us, rfl, hb, by rw [upd_ne (show b ≠ a from fun z => hj (r.dis i j a ha (by rw [← z]; exact hb)))]; exact hlb, mvs hs2⟩
     | ob => exact h2
     | scr n => exact IsS.to (fun b u f q => ⟨f, by rw [upd_ne (show b ≠ a from fun w => f.2 i (by rw [w]; exact ha))]; exact q⟩) h2
     | dct ks => obtain ⟨b, hb, h2⟩ := h2; exact ⟨b, hb, h2.to fun u q => by rw [upd_ne (show b ≠ a from fun z => hj (r.dis i j a ha (by rw [← z]; exact hb)))]; exact q⟩
     | gen f ds => obtain ⟨b, xs, e, hb, q, z⟩ := h2; exact ⟨b, xs, e, hb, by rw [upd_ne (show b ≠ a from fun z => hj (r.dis i j a ha (by rw [← z]; exact hb)))]; exact q, mvs z⟩
     | rd f ds => obtain ⟨b, xs, e, hb, q, z⟩ := h2; exact ⟨b, xs, e, hb, by rw [upd_ne (show b ≠ a from fun w => hb.2 i (by rw [w]; exact ha))]; exact q, mvs z⟩
     | exc C ns ds => obtain ⟨xs, e, z⟩ := h2; exact ⟨xs, e.to fun b u f q => ⟨f, by rw [upd_ne (show b ≠ a from fun w => f.2 i (by rw [w]; exact ha))]; exact q⟩, mvs z⟩
     | thg T => exact T.to (fun b u f q => ⟨f, by rw [upd_ne (show b ≠ a from fun w => f.2 i (by rw [w]; exact ha))]; exact q⟩) (fun b u w q => ⟨w, by rw [upd_ne (show b ≠ a from fun z => hj (r.dis i j a ha (by rw [← z]; exact w)))]; exact q⟩) ts h2
     | thr T => obtain ⟨W, hw, z⟩ := h2; exact ⟨W, fun b w => let ⟨f, o, q⟩ := hw b w; ⟨f, o, by rw [upd_ne (show b ≠ a from fun w => f.2 i (by rw [w]; exact ha))]; exact q⟩, T.to (fun b u f q => ⟨f, by rw [upd_ne (show b ≠ a from fun w => f.2 i (by rw [w]; exact ha))]; exact q⟩) (fun b u w q => ⟨w, by rw [upd_ne (show b ≠ a from fun y => (hw b w).1.2 i (by rw [y]; exact ha))]; exact q⟩) ts z⟩
theorem Frm.change {i : Nat} {a : Addr} {o : HO} (ha : A i a) : Frm O A H A (upd H a o) := fun b u e n => ⟨by rw [upd_ne (show b ≠ a from fun z => n.2 i (by rw [z]; exact ha))]; exact e, n⟩
theorem Rep.disown {i : Nat} {ds : List PyData} (r : Rep K O H₀ A H σ ρ) (e : ρ[i]? = some (some (.own ds))) : Rep K O H₀ (fun j a => j ≠ i ∧ A j a) H σ (ρ.set i (some (.im (.list ds)))) := by
 have un : ∀ a, unO O A a → unO O (fun j a => j ≠ i ∧ A j a) a := fun a u => ⟨u.1, fun j z => u.2 j z.2⟩
 refine ⟨r.ok, r.p, r.p0, r.st, fun j k a x y => r.dis j k a x.2 y.2, fun j a x => r.own j a x.2, fun j x ej => ?_, by rw [List.length_set]; exact r.len⟩
 by_cases hj : i = j
 · subst hj
   have hi : i < ρ.length := (List.getElem?_eq_some_iff.mp e).1
   rw [List.getElem?_set_self hi] at ej
   cases ej
   obtain ⟨w, h1, h2⟩ := r.at_ i _ e
   obtain ⟨a, xs, rfl, ha, hl, hs⟩ := h2
   exact ⟨.ref a, h1, .list ⟨(r.own i a ha).2.2, fun j z => z.1 (r.dis j i a z.2 ha)⟩ hl (hs.weak un)⟩
 · rw [List.getElem?_set_ne hj] at ej
   obtain ⟨w, h1, h2⟩ := r.at_ j x ej
   refine ⟨w, h1, ?_⟩
   cases x with
   | im d => exact h2.weak un
   | own fs =>
     obtain ⟨b, us, rfl, hb, hlb, hs2⟩ := h2
     exact ⟨b, us, rfl, ⟨fun z => hj z.symm, hb⟩, hlb, hs2.weak un⟩
   | ob => exact h2
   | scr n => exact IsS.to (fun a u f q => ⟨un a f, q⟩) h2
   | dct ks => obtain ⟨b, hb, h2⟩ := h2; exact ⟨b, ⟨fun z => hj z.symm, hb⟩, h2⟩
   | gen f ds => obtain ⟨b, xs, e, hb, q, z⟩ := h2; exact ⟨b, xs, e, ⟨fun z => hj z.symm, hb⟩, q, z.weak un⟩
   | rd f ds => obtain ⟨b, xs, e, hb, q, z⟩ := h2; exact ⟨b, xs, e, un b hb, q, z.weak un⟩
   | exc C ns ds => obtain ⟨xs, e, z⟩ := h2; exact ⟨xs, e.to fun b u f q => ⟨un b f, q⟩, z.weak un⟩
   | thg T => exact T.to (fun a u f q => ⟨un a f, q⟩) (fun a u w q => ⟨⟨fun z => hj z.symm, w⟩, q⟩) (TupStay.refl _) h2
   | thr T => obtain ⟨W, hw, z⟩ := h2; exact ⟨W, fun a w => ⟨un a (hw a w).1, (hw a w).2⟩, T.to (fun a u f q => ⟨un a f, q⟩) (fun a u w q => ⟨w, q⟩) (TupStay.refl _) z⟩
end
section
variable {K : PySem.W.Frag} {O : Ob}
theorem Post.frm {H₀ : Hp} {A A1 : Nat → Addr → Prop} {H H1 : Hp} {D : Ends} {Dd : DEnds} (P : Post K O H₀ A H D Dd) (f : Frm O A H A1 H1) : Post K O H₀ A1 H1 D Dd :=
 ⟨fun A' σ' H' ρ' r g => P.nx A' σ' H' ρ' r (f.trans g), fun A' σ' H' ρ' r g => P.bk A' σ' H' ρ' r (f.trans g), fun A' σ' H' ρ' r g => P.ct A' σ' H' ρ' r (f.trans g), P.rt⟩
def seqD (g k : DS) : DS := fun Dd ρ => g { Dd with nx := k Dd } ρ
theorem sd_seq {t u : TS} {g k : DS} (h : SD K O t g) (h' : SD K O u k) : SD K O (tSeq t u) (seqD g k) := fun H₀ A σ H ρ D Dd r q P =>
 h H₀ A σ H ρ _ _ r q ⟨fun A' σ' H' ρ' r' f q' => h' H₀ A' σ' H' ρ' D Dd r' q' (P.frm f), P.bk, P.ct, P.rt⟩
theorem sd_next : SD K O tNext (fun Dd ρ => Dd.nx ρ) := fun H₀ A σ H ρ D Dd r q P => P.nx A σ H ρ r .refl q
def ifS (c : DT) (g k : DS) : DS := fun Dd ρ => c ρ fun b => if b = true then g Dd ρ else k Dd ρ
theorem sd_if {c : TT} {t u : TS} {fc : DT} {g k : DS} (hc : TD K O c fc) (h : SD K O t g) (h' : SD K O u k) : SD K O (tIfS c t u) (ifS fc g k) := fun H₀ A σ H ρ D Dd r q P => by
 refine hc σ H ρ _ _ r.seen q fun b H1 s1 q1 => ?_
 cases b with
 | true => exact h H₀ A σ H1 ρ D Dd (r.stp s1) q1 (P.frm (.stp s1))
 | false => exact h' H₀ A σ H1 ρ D Dd (r.stp s1) q1 (P.frm (.stp s1))
def retS (f : DE) : DS := fun Dd ρ => f ρ Dd.rt
theorem sd_ret {t : TE} {f : DE} (h : ED K O t f) : SD K O (tRet t) (retS f) := fun H₀ A σ H ρ D Dd r q P => by
 refine h σ H ρ _ _ r.seen q fun v H1 x s1 o1 q1 => P.rt H1 v x (r.st.trans s1) (o1.ahead r.ok r.p0 r.st) q1
def asgS (i : Nat) (f : DE) : DS := fun Dd ρ => f ρ fun r => match r with
 | .o d => flat d = true ∧ Dd.nx (ρ.set i (some (.im d)))
 | .n ds => flats ds = true ∧ Dd.nx (ρ.set i (some (.own ds)))
theorem sd_asg {i : Nat} {t : TE} {f : DE} (h : ED K O t f) : SD K O (tAsg t (gName i)) (asgS i f) := fun H₀ A σ H ρ D Dd r q P => by
 refine h σ H ρ _ _ r.seen q fun v H1 x s1 o1 q1 => ?_
 cases x with
 | o d =>
   obtain ⟨fl, q1⟩ := q1
   exact P.nx _ _ H1 _ ((r.stp s1).setIm (Is.flat (TupStay.refl H1) o1 fl)) (.setIm s1) q1
 | n ds =>
   obtain ⟨fl, q1⟩ := q1
   obtain ⟨a, xs, rfl, hn, hl, hs⟩ := o1
   exact P.nx _ _ H1 _ (r.setOwn s1 hn hl hs fl) (.setOwn s1 hn) q1
def appS (i : Nat) (f : DE) : DS := fun Dd ρ => ∃ ds, ρ[i]? = some (some (.own ds)) ∧ f ρ fun r => flat r.d = true ∧ ds.length < sizeLine ∧ Dd.nx (ρ.set i (some (.own (ds ++ [r.d]))))
theorem sd_append {i : Nat} {t : TE} {f : DE} (h : ED K O t f) : SD K O (tDrop (tBM K "list" rAppend (tVar i) (tCons t tNil))) (appS i f) := fun H₀ A σ H ρ D Dd r q P => by
 obtain ⟨ds, e, q⟩ := q
 obtain ⟨v, hv, a, xs, rfl, ha, hl, hs⟩ := r.at_ i _ e
 refine ⟨_, hv, ?_⟩
 refine ⟨.inl ⟨rfl, xs, .of hl⟩, ?_⟩
 refine h σ H ρ _ _ r.seen q fun w H1 x s1 o1 ⟨fl, hz, q1⟩ => ?_
 have r1 := r.stp s1
 obtain ⟨v1, hv1, a1, xs1, e1, ha1, hl1, hs1⟩ := r1.at_ i _ e
 rw [hv] at hv1
 cases hv1
 cases e1
 refine ⟨a, xs1, w, rfl, rfl, hl1, by rw [hs1.length]; exact hz, ?_⟩
 have iw : Is K (unO O A) H1 w x.d := Is.flat (TupStay.refl H1) (o1.is r.ok r.p) fl
 exact P.nx A σ _ _ (r1.change e hv ha (hs1.snoc iw)) ((Frm.stp s1).trans (.change ha)) q1
end
end L3
namespace L3
open PySem PySem.Spec
open PyProof.Rows hiding St
open L2
def GR (K : PySem.W.Frag) (O : Ob) (t : TG) (g : DG) : Prop :=
 ∀ (H₀ : Hp) (A : Nat → Addr → Prop) (σ : St) (H : Hp) (ρ : DSt) (v : V) (d : PyData) (Q : St → Hp → Prop) (Qd : DSt → Prop), Rep K O H₀ A H σ ρ → flat d = true → Is K (unO O A) H v d → g d ρ Qd →
   (∀ A' σ' ρ', Rep K O H₀ A' H σ' ρ' → Frm O A H A' H → Qd ρ' → Q σ' H) → t v σ H Q
section
variable {K : PySem.W.Frag} {O : Ob}
theorem gr_name {i : Nat} : GR K O (gName i) (gN i) := fun H₀ A σ H ρ v d Q Qd r _ h q k => k _ _ _ (r.setIm h) (.setIm (.refl _ _)) q
def GRs (K : PySem.W.Frag) (O : Ob) (t : TGs) (is : List Nat) : Prop :=
 ∀ (H₀ : Hp) (A : Nat → Addr → Prop) (σ : St) (H : Hp) (ρ : DSt) (vs : List V) (ds : List PyData) (Q : St → Hp → Prop) (Qd : DSt → Prop), Rep K O H₀ A H σ ρ → flats ds = true → IsAll K (unO O A) H vs ds → gTD is ds ρ Qd →
   (∀ A' σ' ρ', Rep K O H₀ A' H σ' ρ' → Frm O A H A' H → Qd ρ' → Q σ' H) → t vs σ H Q
theorem grs_nil : GRs K O gNil [] := fun H₀ A σ H ρ vs ds Q Qd r _ i h k => by
 cases i with
 | nil => exact ⟨rfl, k A σ ρ r .refl h⟩
 | cons _ _ => exact h.elim
theorem grs_cons {i : Nat} {is : List Nat} {t : TGs} (ht : GRs K O t is) : GRs K O (gCons (gName i) t) (i :: is) := fun H₀ A σ H ρ vs ds Q Qd r fl h q k => by
 cases h with
 | nil => exact q.elim
 | cons h1 h2 =>
   rw [flats, Bool.and_eq_true] at fl
   have f1 : Frm O A H (fun j a => j ≠ i ∧ A j a) H := .setIm (.refl _ _)
   refine ⟨_, _, rfl, ht _ _ _ H _ _ _ _ _ (r.setIm h1) fl.2 (IsAll.flats (TupStay.refl H) h2 fl.2) q fun A' σ' ρ' r' f q' => k A' σ' ρ' r' (f1.trans f) q'⟩
theorem gr_tup {is : List Nat} {t : TGs} {n : Nat} (hn : is.length = n) (ht : GRs K O t is) : GR K O (gTup K n t) (gT is) := fun H₀ A σ H ρ v d Q Qd r fl i h k => by
 obtain ⟨ds, rfl, h⟩ := h
 cases i with
 | tuple q is' => exact ⟨_, _, rfl, q, by rw [is'.length, gTD_len h]; exact hn, ht H₀ A σ H ρ _ ds Q Qd r (by simpa [flat] using fl) is' h k⟩
def forGo (g : DG) (gb : DS) (Dd : DEnds) : List PyData → DSt → Prop
 | [], ρ => Dd.nx ρ
 | d :: ds, ρ => flat d = true ∧ g d ρ fun ρ2 => gb { Dd with nx := forGo g gb Dd ds, ct := forGo g gb Dd ds, bk := Dd.nx } ρ2
abbrev DJ := DSt → (List PyData → Prop) → Prop
def SrcR (K : PySem.W.Frag) (O : Ob) (wi : TI) (f : DJ) : Prop :=
 ∀ (H₀ : Hp) (A : Nat → Addr → Prop) (σ : St) (H : Hp) (ρ : DSt) (R : It → Hp → Prop) (Qd : List PyData → Prop), Rep K O H₀ A H σ ρ → f ρ Qd →
   (∀ (J : It) (H1 : Hp) (ds : List PyData) (B : Addr → Prop), Walk K O H H1 J ds B → (∀ a, B a → unO O A a) → Qd ds → R J H1) → wi σ H R
def newJ (f : DI) : DJ := fun ρ Q => f ρ fun fr ds => fr = true ∧ Q ds
theorem srcR_of {wi : TI} {f : DI} (h : SrcS K O wi f) : SrcR K O wi (newJ f) := fun H₀ A σ H ρ R Qd r q k => by
 refine h σ H ρ _ _ r.seen q fun J H1 ds B fr W hfr ⟨e, q1⟩ => k J H1 ds B W (fun a b => ⟨(W.hb a b).1, fun j z => ?_⟩) q1
 obtain ⟨_, ⟨xs, q, _⟩, _⟩ := r.own j a z
 rw [hfr e a b] at q; cases q
def varJ (i : Nat) : DJ := fun ρ Q => ∃ ds, ρ[i]? = some (some (.im (.list ds))) ∧ Q ds
theorem srcR_var {i : Nat} : SrcR K O (iList K (tVar i)) (varJ i) := fun H₀ A σ H ρ R Qd r q k => by
 obtain ⟨ds, e, q⟩ := q
 obtain ⟨v, hv, h⟩ := r.at_ i _ e
 have h' : Is K (unO O A) H v (.list ds) := h
 cases h' with
 | list f0 ha hs =>
   rename_i a xs
   have hs' : IsAll K (unM O) H xs ds := hs.weak fun b u => u.1
   refine ⟨_, hv, a, rfl, ⟨xs, .of ha⟩, k (Itl K a) H ds (fun b => b = a) ⟨.refl _ _, fun b hb => by subst hb; exact ⟨f0.1, _, ha⟩, fun H2 i kb _ hi => ?_, fun H2 i d kb t2 hd c => ?_⟩ (fun b hb => by subst hb; exact f0) q⟩
   · exact ⟨xs, .of (kb a _ rfl ha), by rw [hs.length]; exact hi⟩
   · obtain ⟨w, hw, iw⟩ := item_at (O := O) hs' hd t2 c
     have q2 : SqL K H2 a xs := .of (kb a _ rfl ha)
     refine ⟨⟨xs, w, q2, hw⟩, fun x H3 ⟨e3, y⟩ => ?_⟩
     subst e3
     have := y xs q2
     rw [hw] at this
     cases this
     exact ⟨Same.refl _, iw⟩
def forS (f : DJ) (g : DG) (gb : DS) : DS := fun Dd ρ => f ρ fun ds => forGo g gb Dd ds ρ
theorem Rep.tupStay {H₀ : Hp} {A A2 : Nat → Addr → Prop} {H1 H2 : Hp} {σ : St} {ρ : DSt} (r : Rep K O H₀ A H1 σ ρ) (f : Frm O A H1 A2 H2) : TupStay H1 H2 := fun a u hu e => by
 refine (f a u e ⟨fun m => ?_, fun j z => ?_⟩).1
 · have mm := r.ok.mutb H1 a u r.p e m
   obtain ⟨xs, e1 | ⟨o, e1⟩⟩ := hu
   · exact mm.1 xs e1
   · exact mm.2 o _ e1
 · obtain ⟨_, ⟨xs, q, ho⟩, _⟩ := r.own j a z
   rw [e] at q
   cases q
   obtain ⟨ys, e1 | ⟨o, e1⟩⟩ := hu
   · exact (ho ys).1 e1
   · exact (ho ys).2 o e1
theorem sd_for {wi : TI} {tg : TG} {tb : TS} {f : DJ} {g : DG} {gb : DS} (hs : SrcR K O wi f) (hg : GR K O tg g) (hb : SD K O tb gb) : SD K O (tFor wi tg tb) (forS f g gb) := fun H₀ A σ H ρ D Dd r q P => by
 refine hs H₀ A σ H ρ _ _ r q fun J H1 ds B W uB go => ?_
 have r1 := r.stp W.st
 have f1 : Frm O A H A H1 := .stp W.st
 refine ⟨fun i m σ2 H2 => m = ds.length - i ∧ i ≤ ds.length ∧ ∃ A2 ρ2, Rep K O H₀ A2 H2 σ2 ρ2 ∧ Frm O A H1 A2 H2 ∧ forGo g gb Dd (ds.drop i) ρ2, ⟨ds.length, rfl, Nat.zero_le _, A, ρ, r1, .refl, by simpa using go⟩, ?_⟩
 rintro i m σ2 H2 ⟨rfl, hi, A2, ρ2, r2, f2, go2⟩
 have kB : ∀ a o, B a → H1 a = some o → H2 a = some o := fun a o b e => (f2 a o e (uB a b)).1
 have ts : TupStay H1 H2 := r1.tupStay f2
 by_cases hlt : i < ds.length
 · right
   have hd : ds[i]? = some ds[i] := List.getElem?_eq_getElem hlt
   rw [List.drop_eq_getElem_cons hlt] at go2
   obtain ⟨fl, go2⟩ := go2
   obtain ⟨hgo, hy⟩ := W.item H2 i ds[i] kB ts hd (.inl fl)
   refine ⟨hgo, fun σ' H' => ∃ A' ρ', Rep K O H₀ A' H' σ' ρ' ∧ Frm O A H1 A' H' ∧ forGo g gb Dd (ds.drop (i + 1)) ρ', fun σ' H' ⟨A', ρ', x1, x2, x3⟩ => ⟨ds.length - (i + 1), by omega, rfl, hlt, A', ρ', x1, x2, x3⟩, fun x H3 y => ?_⟩
   obtain ⟨sm, ix⟩ := hy x H3 y
   have st3 : Stp O H2 H3 := .same r2.ok sm
   have r3 := r2.stp st3
   refine hg H₀ A2 σ2 H3 ρ2 x ds[i] _ _ r3 fl (Is.flat (TupStay.refl H3) ix fl) go2 fun A3 σ3 ρ3 r3' f3 q3 => ?_
   have f13 : Frm O A H1 A3 H3 := (f2.trans (.stp st3)).trans f3
   refine hb H₀ A3 σ3 H3 ρ3 _ _ r3' q3 ⟨fun A' σ' H' ρ' r' f' q' => ⟨A', ρ', r', f13.trans f', q'⟩, fun A' σ' H' ρ' r' f' q' => P.nx A' σ' H' ρ' r' (f1.trans (f13.trans f')) q', fun A' σ' H' ρ' r' f' q' => ⟨A', ρ', r', f13.trans f', q'⟩, P.rt⟩
 · left
   have e : i = ds.length := by omega
   subst e
   rw [List.drop_length] at go2
   exact ⟨W.stop H2 _ kB ts (Nat.le_refl _), P.nx A2 σ2 H2 ρ2 r2 (f1.trans f2) go2⟩
def whileS (c : DT) (gb : DS) : DS := fun Dd ρ => ∃ W : Nat → DSt → Prop, (∃ m, W m ρ) ∧ ∀ m ρ, W m ρ → c ρ fun b => if b = true then gb { Dd with nx := fun ρ' => ∃ m', m' < m ∧ W m' ρ', ct := fun ρ' => ∃ m', m' < m ∧ W m' ρ', bk := Dd.nx } ρ else Dd.nx ρ
theorem sd_while {c : TT} {tb : TS} {fc : DT} {gb : DS} (hc : TD K O c fc) (hb : SD K O tb gb) : SD K O (tWhile c tb) (whileS fc gb) := fun H₀ A σ H ρ D Dd r q P => by
 obtain ⟨W, ⟨m0, w0⟩, turn⟩ := q
 refine ⟨fun m σ2 H2 => ∃ A2 ρ2, Rep K O H₀ A2 H2 σ2 ρ2 ∧ Frm O A H A2 H2 ∧ W m ρ2, ⟨m0, A, ρ, r, .refl, w0⟩, ?_⟩
 rintro m σ2 H2 ⟨A2, ρ2, r2, f2, w2⟩
 refine hc σ2 H2 ρ2 _ _ r2.seen (turn m ρ2 w2) fun b H3 s3 q3 => ?_
 have f3 : Frm O A H A2 H3 := f2.trans (.stp s3)
 cases b with
 | true =>
   refine ⟨fun σ' H' => ∃ A' ρ', Rep K O H₀ A' H' σ' ρ' ∧ Frm O A H A' H' ∧ ∃ m', m' < m ∧ W m' ρ', fun σ' H' ⟨A', ρ', x1, x2, m', x3, x4⟩ => ⟨m', x3, A', ρ', x1, x2, x4⟩, ?_⟩
   exact hb H₀ A2 σ2 H3 ρ2 _ _ (r2.stp s3) q3 ⟨fun A' σ' H' ρ' r' f' q' => ⟨A', ρ', r', f3.trans f', q'⟩, fun A' σ' H' ρ' r' f' q' => P.nx A' σ' H' ρ' r' (f3.trans f') q', fun A' σ' H' ρ' r' f' q' => ⟨A', ρ', r', f3.trans f', q'⟩, P.rt⟩
 | false => exact P.nx A2 σ2 H3 ρ2 (r2.stp s3) f3 q3
end
def spO (K : PySem.W.Frag) (φ : Ob → Prop) (n : Nat) (f : List PyData → (R → Prop) → Prop) : Sp := fun vs H Q _ =>
 ∃ (O : Ob) (ds : List PyData) (Qr : R → Prop), O.Ok ∧ φ O ∧ O.P H ∧ ds.length = n ∧ IsAll K (unM O) H vs ds ∧ f ds Qr ∧ ∀ r, Qr r → ∀ v H', Stp O H H' → Out K O H H' v r → Q v H'
def spD (K : PySem.W.Frag) (φ : Ob → Prop) (n : Nat) (f : List PyData → (R → Prop) → Prop) : Sp := fun vs H Q _ =>
 ∃ (O : Ob) (ds : List PyData) (ws : List V) (Qr : R → Prop), O.Ok ∧ φ O ∧ O.P H ∧ ds.length = n ∧ vs = O.v :: ws ∧ IsAll K (unM O) H ws ds ∧ f ds Qr ∧ ∀ r, Qr r → ∀ v H', Stp O H H' → Out K O H H' v r → Q v H'
def dstart (N : List Str) (rs : List DV) : DSt := rs.map some ++ List.replicate (N.length - rs.length) none
section
variable {K : PySem.W.Frag} {O : Ob}
theorem rep_start {N : List Str} {H : Hp} {vs : List V} {rs : List DV} (ok : O.Ok) (p : O.P H) (hl : vs.length = rs.length) (h : ∀ (i : Nat) r, rs[i]? = some r → ∃ v, vs[i]? = some v ∧ ((∃ d, r = .im d ∧ Is K (unM O) H v d) ∨ (r = .ob ∧ v = O.v))) :
   Rep K O H (fun _ _ => False) H (L2.start N vs) (dstart N rs) := by
 refine ⟨ok, p, p, .refl _ _, fun _ _ _ z => z.elim, fun _ _ z => z.elim, fun i r e => ?_, ?_⟩
 · unfold dstart at e
   by_cases hi : i < rs.length
   · rw [List.getElem?_append_left (by simpa using hi), List.getElem?_map] at e
     cases q : rs[i]? with
     | none => rw [q] at e; cases e
     | some r' =>
       rw [q] at e
       have e' : r' = r := Option.some.inj (Option.some.inj e)
       subst e'
       obtain ⟨v, hv, hh⟩ := h i r' q
       refine ⟨v, ?_, ?_⟩
       · unfold L2.start
         rw [List.getElem?_append_left (by rw [List.length_map, hl]; exact hi), List.getElem?_map, hv]
         rfl
       · rcases hh with ⟨d, rfl, hd⟩ | ⟨rfl, hd⟩
         · exact hd.weak fun a u => ⟨u, fun j z => z⟩
         · exact hd
   · rw [List.getElem?_append_right (by simpa using hi), List.getElem?_replicate] at e
     split at e <;> cases e
 · unfold dstart L2.start
   rw [List.length_append, List.length_append, List.length_map, List.length_map, List.length_replicate, List.length_replicate, hl]
theorem run_O {N : List Str} {t : TS} {g : DS} {H : Hp} {vs : List V} {ds : List PyData} {Q : VK} {Qr : R → Prop} (h : SD K O t g) (ok : O.Ok) (p : O.P H) (ia : IsAll K (unM O) H vs ds)
   (hg : g { nx := fun _ => Qr (.o .none), rt := Qr } (dstart N (ds.map .im))) (hQ : ∀ r, Qr r → ∀ v H', Stp O H H' → Out K O H H' v r → Q v H') : t { nx := fun _ H' => Q .non H', rt := Q } (L2.start N vs) H := by
 refine h H _ _ H _ _ _ (rep_start ok p (by rw [List.length_map]; exact ia.length) fun i r e => ?_) hg ⟨fun A' σ' H' ρ' r' _ q => hQ _ q .non H' r'.st Is.none, fun A' σ' H' ρ' r' _ q => q.elim, fun A' σ' H' ρ' r' _ q => q.elim, fun H' v r s o q => hQ r q v H' s o⟩
 rw [List.getElem?_map] at e
 obtain ⟨d, hd, rfl⟩ := Option.map_eq_some_iff.mp e
 obtain ⟨v, hv, iv⟩ := ia.get hd
 exact ⟨v, hv, .inl ⟨d, rfl, iv⟩⟩
theorem run_D {N : List Str} {t : TS} {g : DS} {H : Hp} {ws : List V} {ds : List PyData} {Q : VK} {Qr : R → Prop} (h : SD K O t g) (ok : O.Ok) (p : O.P H) (ia : IsAll K (unM O) H ws ds)
   (hg : g { nx := fun _ => Qr (.o .none), rt := Qr } (dstart N (.ob :: ds.map .im))) (hQ : ∀ r, Qr r → ∀ v H', Stp O H H' → Out K O H H' v r → Q v H') : t { nx := fun _ H' => Q .non H', rt := Q } (L2.start N (O.v :: ws)) H := by
 refine h H _ _ H _ _ _ (rep_start ok p (by rw [List.length_cons, List.length_cons, List.length_map, ia.length]) fun i r e => ?_) hg ⟨fun A' σ' H' ρ' r' _ q => hQ _ q .non H' r'.st Is.none, fun A' σ' H' ρ' r' _ q => q.elim, fun A' σ' H' ρ' r' _ q => q.elim, fun H' v r s o q => hQ r q v H' s o⟩
 cases i with
 | zero => cases e; exact ⟨O.v, rfl, .inr ⟨rfl, rfl⟩⟩
 | succ i =>
   rw [List.getElem?_cons_succ, List.getElem?_map] at e
   obtain ⟨d, hd, rfl⟩ := Option.map_eq_some_iff.mp e
   obtain ⟨v, hv, iv⟩ := ia.get hd
   exact ⟨v, by rw [List.getElem?_cons_succ]; exact hv, .inl ⟨d, rfl, iv⟩⟩
def calD (n : Nat) (f : List PyData → (R → Prop) → Prop) (g : DA) : DE := fun ρ Q => g ρ fun ds => ds.length = n ∧ f ds Q
theorem ed_call {φ : Ob → Prop} {n : Nat} {f : List PyData → (R → Prop) → Prop} {E : XK} {t : TA} {g : DA} (hφ : φ O) (h : AD K O t g) : ED K O (tCall (spO K φ n f) [] E t) (calD n f g) := fun σ H ρ Q Qd S q k => by
 refine h σ H ρ _ _ S q fun vs H1 ds s1 is ⟨hn, q1⟩ => ?_
 rw [List.append_nil]
 exact ⟨O, ds, Qd, S.ok, hφ, s1.p S.p, hn, is, q1, fun r qr v H' s2 o2 => k v H' r (s1.trans s2) (o2.ahead S.ok S.p s1) qr⟩
def calO (i : Nat) (n : Nat) (f : List PyData → (R → Prop) → Prop) (g : DA) : DE := fun ρ Q => ρ[i]? = some (some .ob) ∧ g ρ fun ds => ds.length = n ∧ f ds Q
theorem ed_callO {φ : Ob → Prop} {i n : Nat} {f : List PyData → (R → Prop) → Prop} {E : XK} {t : TA} {g : DA} (hφ : φ O) (h : AD K O t g) : ED K O (tCall (spD K φ n f) [] E (tCons (tVar i) t)) (calO i n f g) := fun σ H ρ Q Qd S q k => by
 obtain ⟨e, q⟩ := q
 obtain ⟨v, hv, hh⟩ := S.at_ i _ e
 refine ⟨v, hv, ?_⟩
 refine h σ H ρ _ _ S q fun vs H1 ds s1 is ⟨hn, q1⟩ => ?_
 show spD K φ n f ((v :: vs) ++ []) H1 Q E
 rw [List.append_nil]
 exact ⟨O, ds, vs, Qd, S.ok, hφ, s1.p S.p, hn, by rw [show v = O.v from hh], is, q1, fun r qr v H' s2 o2 => k v H' r (s1.trans s2) (o2.ahead S.ok S.p s1) qr⟩
theorem spO_len {φ : Ob → Prop} {n : Nat} {f : List PyData → (R → Prop) → Prop} {ps : List Str} (hn : ps.length = n) : ∀ vs H Q E, spO K φ n f vs H Q E → vs.length = ps.length := fun vs H Q E zz => by obtain ⟨O, ds, _, _, _, _, h, is, _⟩ := zz; rw [is.length, h, hn]
theorem spD_len {φ : Ob → Prop} {n : Nat} {f : List PyData → (R → Prop) → Prop} {ps : List Str} (hn : ps.length = n + 1) : ∀ vs H Q E, spD K φ n f vs H Q E → vs.length = ps.length := fun vs H Q E zz => by obtain ⟨O, ds, ws, _, _, _, _, h, e, is, _⟩ := zz; rw [e, List.length_cons, is.length, h, hn]
end
end L3
namespace L3
open PySem PySem.Spec
open PyProof.Rows hiding St
open L2
section
variable {X : Cx}
def rEqD (K : PySem.W.Frag) (neg : Bool) : R2 := fun x y H Q => ∃ F G d e, Is K F H x d ∧ Is K G H y e ∧ d.canLay0 = true ∧ e.canLay0 = true ∧ d.depth ≤ 60 ∧ Q (.bl (if neg then !PyData.eqv d e else PyData.eqv d e)) H
theorem op_eqD (hu : X.A.units + 64 < cLine) : OpR X (compareOp .Eq) (rEqD X.K false) := by
 intro pins s σ H x y v u Q I rx ry h
 obtain ⟨F, G, d, e, i1, i2, h1, h2, h3, q⟩ := h
 obtain ⟨as, ra⟩ := i1.reads I rx
 obtain ⟨bs, rb⟩ := i2.reads I ry
 exact SeqAt.compareEq_reads ra rb h1 h2 (by omega) ⟨.bl _, H, I, rfl, q⟩
theorem op_neD (hu : X.A.units + 64 < cLine) : OpR X (compareOp .NotEq) (rEqD X.K true) := by
 intro pins s σ H x y v u Q I rx ry h
 obtain ⟨F, G, d, e, i1, i2, h1, h2, h3, q⟩ := h
 obtain ⟨as, ra⟩ := i1.reads I rx
 obtain ⟨bs, rb⟩ := i2.reads I ry
 exact SeqAt.compareNe_reads ra rb h1 h2 (by omega) ⟨.bl _, H, I, rfl, q⟩
def rInD (K : PySem.W.Frag) (neg : Bool) : R2 := fun x y H Q => ∃ F G d es, Is K F H x d ∧ (Is K G H y (.list es) ∨ Is K G H y (.tuple es)) ∧ d.canLay0 = true ∧ PyData.canLayAll0 es = true ∧ d.depth ≤ 60 ∧
 Q (.bl (if neg then !es.any (fun y => PyData.eqv y d) else es.any fun y => PyData.eqv y d)) H
theorem op_inD (hu : X.A.units + 64 < cLine) : OpR X (compareOp .In) (rInD X.K false) := by
 intro pins s σ H x y v u Q I rx ry h
 obtain ⟨F, G, d, es, i1, i2, h1, h2, h3, q⟩ := h
 obtain ⟨as, ra⟩ := i1.reads I rx
 rcases i2 with i2 | i2
 · obtain ⟨bs, rb⟩ := i2.reads I ry
   exact SeqAt.in_list_reads rb ra h2 h1 (by omega) ⟨.bl _, H, I, rfl, q⟩
 · obtain ⟨bs, rb⟩ := i2.reads I ry
   exact SeqAt.in_tuple_reads rb ra h2 h1 (by omega) ⟨.bl _, H, I, rfl, q⟩
theorem op_notInD (hu : X.A.units + 64 < cLine) : OpR X (compareOp .NotIn) (rInD X.K true) := by
 intro pins s σ H x y v u Q I rx ry h
 obtain ⟨F, G, d, es, i1, i2, h1, h2, h3, q⟩ := h
 obtain ⟨as, ra⟩ := i1.reads I rx
 rcases i2 with i2 | i2
 · obtain ⟨bs, rb⟩ := i2.reads I ry
   exact SeqAt.notIn_list_reads rb ra h2 h1 (by omega) ⟨.bl _, H, I, rfl, q⟩
 · obtain ⟨bs, rb⟩ := i2.reads I ry
   exact SeqAt.notIn_tuple_reads rb ra h2 h1 (by omega) ⟨.bl _, H, I, rfl, q⟩
theorem vals_str : ∀ {ys : List Str} {us : List Value}, Vals (ys.map V.str) us → StrsAre us ys
 | [], _, r => by cases r; exact .nil
 | y :: ys, _, r => by
   rw [List.map_cons] at r
   cases r with
   | cons h t => obtain ⟨tk, rfl⟩ := h; exact .cons y tk (vals_str t)
theorem vals_of_strs : ∀ {ys : List Str} {us : List Value}, StrsAre us ys → Vals (ys.map V.str) us
 | _, _, .nil => .nil
 | _, _, .cons y t r => .cons ⟨t, rfl⟩ (vals_of_strs r)
def rSortS : List V → Hp → VK → Prop := fun xs H Q => ∃ p ys, xs = [.ref p] ∧ H p = some (.lst (ys.map V.str)) ∧ ys.length < 64 ∧ ∀ zs l, zs.Perm ys → sortedS zs = true → H l = none → Q (.ref l) (upd H l (.lst (zs.map V.str)))
theorem call_sortS : CallR X (.builtin "sorted") rSortS := by
 intro pins s σ H xs us Q I r h
 obtain ⟨p, ys, rfl, hH, hz, q⟩ := h
 obtain ⟨u, rfl, ru⟩ := Vals.one r
 cases ru
 obtain ⟨z, its, n, rv, hl, e⟩ := I.lstM hH
 refine sorted_strs (ss := ys) ⟨_, e, rfl, _, rfl⟩ (vals_str rv) (by rw [← hl, List.length_map]; exact hz) fun out zs h1 h2 h3 => ?_
 obtain ⟨c, he⟩ := sortedAll_at s.heap its out
 have hn : H (s.heap.objs.size + 1) = none := I.hok.fresh (Nat.le_succ _)
 refine ⟨.ref _, _, I.laid (a := s.heap.objs.size + 1) (o := .lst (zs.map V.str)) (t' := s.toks) (fun b o eb => sortedAll_old eb) (Nat.le_succ _) ?_, rfl, q zs _ h2 h3 hn⟩
 refine ⟨?_, out.toList, c, vals_of_strs h1, by simpa using he⟩
 rw [List.length_map, h2.length_eq]
 have : sizeLine = 16777216 := sizeLine_eq
 omega
theorem items_vals {P : Nat → Value → Prop} {acc : Array Value} {ys : List V} (h : ItemsOf P acc ys.length) (hv : ∀ i v, P i v → ∃ y, ys[i]? = some y ∧ RelV y v) : Vals ys acc.toList := by
 have go : ∀ (k : Nat) (zs : List V) (l : List Value), zs.length = l.length → (∀ (i : Nat) v, l[i]? = some v → ∃ y, zs[i]? = some y ∧ RelV y v) → Vals zs l := by
   intro k zs l
   induction l generalizing zs with
   | nil => intro e _; cases zs with
     | nil => exact .nil
     | cons _ _ => simp at e
   | cons a l ih => intro e hh; cases zs with
     | nil => simp at e
     | cons z zs =>
       obtain ⟨y, h1, h2⟩ := hh 0 a rfl
       simp at h1
       subst h1
       exact .cons h2 (ih zs (by simpa using e) fun i v ev => by simpa using hh (i + 1) v (by simpa using ev))
 refine go 0 ys acc.toList (by have e := h.1; simp [e]) fun i v e => hv i v (h.2 i v (by simpa using e))
def rListS : List V → Hp → VK → Prop := fun xs H Q => ∃ x : Str, xs = [.str x] ∧ x.cps.size ≤ sizeLine ∧ ∀ l, H l = none → Q (.ref l) (upd H l (.lst (x.cps.toList.map fun c => V.str (sg c))))
theorem call_listS (hc : X.calm = true) : CallR X (.type "list") rListS := by
 intro pins s σ H xs us Q I r h
 obtain ⟨x, rfl, hz, q⟩ := h
 obtain ⟨u, rfl, ru⟩ := Vals.one r
 obtain ⟨t, rfl⟩ := ru
 refine call_list_str (I.ok.hd hc) x t (fun h' tk acc c kk e it => ?_) hz
 refine ⟨.ref _, _, I.laid (a := s.heap.objs.size) (o := .lst (x.cps.toList.map fun c => V.str (sg c))) kk (Nat.le_refl _) ?_, rfl, q _ I.fresh⟩
 refine ⟨by simpa using hz, acc.toList, c, items_vals (P := SignAt x) (by simpa using it) fun i v hv => ?_, by simpa using e⟩
 obtain ⟨cc, uu, h1, rfl⟩ := hv
 exact ⟨.str (sg cc), by rw [List.getElem?_map]; simp [h1], ⟨uu, rfl⟩⟩
end
end L3
namespace L3
open PySem PySem.Spec
open PyProof.Rows hiding St
open L2
def tx (l : List Nat) : Str := ⟨l.toArray⟩
theorem tx_toList (l : List Nat) : (tx l).cps.toList = l := by simp [tx]
def cutL {α : Type} (xs : List α) (lo hi : Option Int) : List α := (xs.drop (HT.sIx xs.length 0 lo)).take (HT.sIx xs.length xs.length hi - HT.sIx xs.length 0 lo)
section
variable {X : Cx}
def rCatT0 (K : PySem.W.Frag) : R2 := fun x y H Q => ∃ a b ys, x = .ref a ∧ y = .ref b ∧ SqT K H a [] ∧ SqT K H b ys ∧ Q (.ref b) H
theorem op_catT0 : OpR X (binaryOp .Add) (rCatT0 X.K) := by
 intro pins s σ H x y v u Q I rx ry h
 obtain ⟨a, b, ys, rfl, rfl, ha, hb, q⟩ := h
 cases rx
 cases ry
 obtain ⟨its, r1, p1, _⟩ := I.tuple ha
 obtain ⟨its2, r2, p2, _⟩ := I.tuple hb
 cases r1
 obtain ⟨⟨cls, dd, data, sl⟩, ho, hc, n, hd⟩ := id p1
 obtain ⟨⟨cls2, dd2, data2, sl2⟩, ho2, hc2, n2, hd2⟩ := id p2
 simp only at hc hd hc2 hd2
 subst hc hd hc2 hd2
 exact concat_meets ⟨_, ho, rfl⟩ ⟨_, ho2, rfl⟩ noFill_tuple_add seq_tuple_add PySem.F.slot_tuple_add PySem.F.entry_tuple_add (PySem.F.args_tuple_add_2 _ _)
   (tuple_addW0 a b _ its2.toArray n n2 dd dd2 sl sl2 (by simp)) ⟨ho, ho2, ⟨.ref b, H, I, rfl, q⟩⟩
end
end L3
namespace L3
open PySem PySem.Spec
open PyProof.Rows hiding St
open L2
section
variable {K : PySem.W.Frag} {O : Ob} {F : Addr → Prop} {H : Hp}
theorem isAll_strs : ∀ {vs : List V} {ys : List Str}, IsAll K F H vs (ys.map .str) → vs = ys.map V.str
 | _, [], h => by cases h; rfl
 | _, y :: ys, h => by
   rw [List.map_cons] at h
   cases h with
   | cons h1 h2 => cases h1; rw [isAll_strs h2]; rfl
theorem strs_isAll : ∀ (ys : List Str), IsAll K F H (ys.map V.str) (ys.map .str)
 | [] => .nil
 | y :: ys => .cons (.str y) (strs_isAll ys)
theorem isAll_atI {vs : List V} {ds : List PyData} {i : Int} {d : PyData} (h : IsAll K F H vs ds) (e : atI ds i = some d) : ∃ v, atI vs i = some v ∧ Is K F H v d := by
 unfold atI at e ⊢
 rw [h.length]
 cases q : ixN ds.length i with
 | none => rw [q] at e; cases e
 | some j =>
   rw [q] at e
   obtain ⟨v, hv, iv⟩ := h.get (i := j) e
   exact ⟨v, hv, iv⟩
theorem out_list {H : Hp} {p : Addr} {vs : List V} {ds : List PyData} (ok : O.Ok) (hp : H p = none) (h : IsAll K (unM O) H vs ds) : Stp O H (upd H p (.lst vs)) ∧ Out K O H (upd H p (.lst vs)) (.ref p) (.n ds) := by
 have s : Stp O H (upd H p (.lst vs)) := .new ok hp _
 exact ⟨s, p, vs, rfl, hp, upd_same, h.stp s (fun _ z => z) (fun _ z => z)⟩
theorem out_tup {H : Hp} {p : Addr} {vs : List V} {ds : List PyData} (ok : O.Ok) (hp : H p = none) (h : IsAll K (unM O) H vs ds) : Stp O H (upd H p (.tup vs)) ∧ Out K O H (upd H p (.tup vs)) (.ref p) (.o (.tuple ds)) := by
 have s : Stp O H (upd H p (.tup vs)) := .new ok hp _
 exact ⟨s, Is.tuple (.of upd_same) (h.stp s (fun _ z => z) (fun _ z => z))⟩
def okD (d : PyData) : Bool := d.canLay0 && decide (d.depth ≤ 60)
def eqF (neg : Bool) : PyData → PyData → Option R := fun d e => if (okD d && e.canLay0) = true then some (.o (.bool (if neg then !PyData.eqv d e else PyData.eqv d e))) else none
theorem opd_eq (neg : Bool) : OpD K O (rEqD K neg) (fn2 (eqF neg)) := fun H x y d e Q Qd ok p ix iy ⟨r, hr, q⟩ k => by
 unfold eqF at hr
 split at hr
 · rename_i hc
   cases hr
   simp only [Bool.and_eq_true, okD, decide_eq_true_eq] at hc
   exact ⟨_, _, d, e, ix, iy, hc.1.1, hc.2, hc.1.2, k _ H (.o _) (.refl _ _) (Is.bool _) q⟩
 · cases hr
def inF (neg : Bool) : PyData → PyData → Option R := fun d e => match d, e with
 | .str x, .str y => some (.o (.bool (if neg then !(!(Builtin.Str.occurrences y x 0 y.length 1).isEmpty) else !(Builtin.Str.occurrences y x 0 y.length 1).isEmpty)))
 | d, .list es => if (okD d && PyData.canLayAll0 es) = true then some (.o (.bool (if neg then !es.any (fun y => PyData.eqv y d) else es.any fun y => PyData.eqv y d))) else none
 | d, .tuple es => if (okD d && PyData.canLayAll0 es) = true then some (.o (.bool (if neg then !es.any (fun y => PyData.eqv y d) else es.any fun y => PyData.eqv y d))) else none
 | _, _ => none
def rInU (K : PySem.W.Frag) : R2 := fun x y H Q => (∃ i j, x = .str i ∧ y = .str j ∧ Q (.bl (!(Builtin.Str.occurrences j i 0 j.length 1).isEmpty)) H) ∨ rInD K false x y H Q
def rNotInU (K : PySem.W.Frag) : R2 := fun x y H Q => (∃ i j, x = .str i ∧ y = .str j ∧ Q (.bl (!(!(Builtin.Str.occurrences j i 0 j.length 1).isEmpty))) H) ∨ rInD K true x y H Q
theorem op_inU {X : Cx} (hu : X.A.units + 64 < cLine) : OpR X (compareOp .In) (rInU X.K) := op_in_str.or (op_inD hu)
theorem op_notInU {X : Cx} (hu : X.A.units + 64 < cLine) : OpR X (compareOp .NotIn) (rNotInU X.K) := op_notin_str.or (op_notInD hu)
theorem opd_inS {neg : Bool} {H : Hp} {x y : V} {d e : PyData} {Q : VK} {Qd : R → Prop} (ix : Is K (unM O) H x d) (iy : Is K (unM O) H y e) (q : fn2 (inF neg) d e Qd) (k : ∀ v H' r, Stp O H H' → Out K O H H' v r → Qd r → Q v H') :
   (∃ i j, x = .str i ∧ y = .str j ∧ Q (.bl (if neg then !(!(Builtin.Str.occurrences j i 0 j.length 1).isEmpty) else !(Builtin.Str.occurrences j i 0 j.length 1).isEmpty)) H) ∨ rInD K neg x y H Q := by
 obtain ⟨r, hr, q⟩ := q
 unfold inF at hr
 split at hr
 · rename_i a b
   cases ix
   cases iy
   cases hr
   exact .inl ⟨a, b, rfl, rfl, k _ H (.o _) (.refl _ _) (Is.bool _) q⟩
 · split at hr
   · rename_i hc
     cases hr
     simp only [Bool.and_eq_true, okD, decide_eq_true_eq] at hc
     exact .inr ⟨_, _, _, _, ix, .inl iy, hc.1.1, hc.2, hc.1.2, k _ H (.o _) (.refl _ _) (Is.bool _) q⟩
   · cases hr
 · split at hr
   · rename_i hc
     cases hr
     simp only [Bool.and_eq_true, okD, decide_eq_true_eq] at hc
     exact .inr ⟨_, _, _, _, ix, .inr iy, hc.1.1, hc.2, hc.1.2, k _ H (.o _) (.refl _ _) (Is.bool _) q⟩
   · cases hr
 · cases hr
theorem opd_in : OpD K O (rInU K) (fn2 (inF false)) := fun H x y d e Q Qd ok p ix iy q k => opd_inS ix iy q k
theorem opd_notIn : OpD K O (rNotInU K) (fn2 (inF true)) := fun H x y d e Q Qd ok p ix iy q k => opd_inS (neg := true) ix iy q k
def intF (g : Int → Int → PyData) : PyData → PyData → Option R
 | .int i, .int j => some (.o (g i j))
 | _, _ => none
theorem opd_int0 {g : Int → Int → V} {G : Int → Int → PyData} (h : ∀ i j H, Is K (unM O) H (g i j) (G i j)) : OpD K O (rI0 g) (fn2 (intF G)) := fun H x y d e Q Qd ok p ix iy ⟨r, hr, q⟩ k => by
 unfold intF at hr
 split at hr
 · cases ix
   cases iy
   cases hr
   exact ⟨_, _, rfl, rfl, k _ H (.o _) (.refl _ _) (h _ _ H) q⟩
 · cases hr
theorem opd_lt : OpD K O (rI0 fun i j => .bl (decide (i < j))) (fn2 (intF fun i j => .bool (decide (i < j)))) := opd_int0 fun _ _ _ => .bool _
theorem opd_le : OpD K O (rI0 fun i j => .bl (decide (i ≤ j))) (fn2 (intF fun i j => .bool (decide (i ≤ j)))) := opd_int0 fun _ _ _ => .bool _
def rAddU (K : PySem.W.Frag) : R2 := fun x y H Q => rI0 (fun i j => .int (i + j)) x y H Q ∨ (∃ i j, x = .str i ∧ y = .str j ∧ i.length + j.length ≤ sizeLine ∧ Q (.str (i ++ j)) H) ∨ rCat x y H Q ∨ rCatT K x y H Q ∨ rCatT0 K x y H Q
theorem op_addU {X : Cx} : OpR X (binaryOp .Add) (rAddU X.K) := op_add.or (op_add_str.or (op_cat.or (op_catT.or op_catT0)))
def addF : PyData → PyData → Option R := fun d e => match d, e with
 | .int i, .int j => some (.o (.int (i + j)))
 | .str x, .str y => if x.length + y.length ≤ sizeLine then some (.o (.str (x ++ y))) else none
 | .list a, .list b => if a.length + b.length ≤ sizeLine then some (.n (a ++ b)) else none
 | .tuple a, .tuple b => if a.length + b.length ≤ sizeLine then some (.o (.tuple (a ++ b))) else none
 | _, _ => none
theorem opd_add : OpD K O (rAddU K) (fn2 addF) := fun H x y d e Q Qd ok p ix iy ⟨r, hr, q⟩ k => by
 unfold addF at hr
 split at hr
 · cases ix
   cases iy
   cases hr
   exact .inl ⟨_, _, rfl, rfl, k _ H (.o _) (.refl _ _) (Is.int _) q⟩
 · split at hr
   · rename_i hz
     cases ix
     cases iy
     cases hr
     exact .inr (.inl ⟨_, _, rfl, rfl, hz, k _ H (.o _) (.refl _ _) (Is.str _) q⟩)
   · cases hr
 · split at hr
   · rename_i hz
     cases hr
     cases ix with
     | list f1 h1 s1 =>
       cases iy with
       | list f2 h2 s2 =>
         refine .inr (.inr (.inl ⟨_, _, _, _, rfl, rfl, h1, h2, by rw [s1.length, s2.length]; exact hz, fun p' hp => ?_⟩))
         obtain ⟨a1, a2⟩ := out_list ok hp (s1.append s2)
         exact k _ _ _ a1 a2 q
   · cases hr
 · split at hr
   · rename_i hz
     cases hr
     cases ix with
     | tuple h1 s1 =>
       cases iy with
       | tuple h2 s2 =>
         rename_i a xs b ys
         cases xs with
         | nil =>
           cases s1
           exact .inr (.inr (.inr (.inr ⟨a, b, ys, rfl, rfl, h1, h2, k _ H (.o _) (.refl _ _) (Is.tuple h2 s2) q⟩)))
         | cons z zs =>
           refine .inr (.inr (.inr (.inl ⟨a, b, _, ys, rfl, rfl, h1, h2, by simp, by rw [s1.length, s2.length]; exact hz, fun e => ?_, fun _ p' hp => ?_⟩)))
           · subst e
             cases s2
             rw [List.append_nil] at q
             exact k _ H (.o _) (.refl _ _) (Is.tuple h1 s1) q
           · obtain ⟨a1, a2⟩ := out_tup ok hp (s1.append s2)
             exact k _ _ _ a1 a2 q
   · cases hr
 · cases hr
def idxF : PyData → PyData → Option R := fun d e => match d, e with
 | .list ds, .int i => (atI ds i).map .o
 | .tuple ds, .int i => (atI ds i).map .o
 | .str x, .int i => if x.length ≤ sizeLine then (atI x.cps.toList i).map fun c => .o (.str (sg c)) else none
 | _, _ => none
theorem opd_idx : OpD K O (rIx K) (fn2 idxF) := fun H x y d e Q Qd ok p ix iy ⟨r, hr, q⟩ k => by
 unfold idxF at hr
 split at hr
 · obtain ⟨z, hz, rfl⟩ := Option.map_eq_some_iff.mp hr
   cases iy
   cases ix with
   | list f1 h1 s1 =>
     obtain ⟨v, hv, iv⟩ := isAll_atI s1 hz
     exact .inl ⟨_, _, _, v, rfl, rfl, .of h1, hv, k v H (.o z) (.refl _ _) iv q⟩
 · obtain ⟨z, hz, rfl⟩ := Option.map_eq_some_iff.mp hr
   cases iy
   cases ix with
   | tuple h1 s1 =>
     obtain ⟨v, hv, iv⟩ := isAll_atI s1 hz
     exact .inr (.inl ⟨_, _, _, v, rfl, rfl, h1, hv, k v H (.o z) (.refl _ _) iv q⟩)
 · split at hr
   · rename_i hl
     obtain ⟨c, hc, rfl⟩ := Option.map_eq_some_iff.mp hr
     cases iy
     cases ix
     exact .inr (.inr ⟨_, _, c, rfl, rfl, hl, hc, k _ H (.o _) (.refl _ _) (Is.str _) q⟩)
   · cases hr
 · cases hr
def lenF : List PyData → Option R
 | [.str x] => if x.length ≤ sizeLine then some (.o (.int x.length)) else none
 | [.list ds] => some (.o (.int ds.length))
 | [.tuple ds] => some (.o (.int ds.length))
 | _ => none
theorem isAll_one {vs : List V} {d : PyData} (h : IsAll K F H vs [d]) : ∃ v, vs = [v] ∧ Is K F H v d := by
 cases h with
 | cons h1 h2 => cases h2; exact ⟨_, rfl, h1⟩
theorem cd_len : CallD K O (fun xs H Q => ∃ x n, xs = [x] ∧ LenV K x H n ∧ Q (.int n) H) (fn1 lenF) := fun H vs ds Q Qd ok p is ⟨r, hr, q⟩ k => by
 unfold lenF at hr
 split at hr
 · split at hr
   · rename_i hl
     obtain ⟨v, rfl, iv⟩ := isAll_one is
     cases iv
     cases hr
     exact ⟨_, _, rfl, ⟨hl, rfl⟩, k _ H (.o _) (.refl _ _) (Is.int _) q⟩
   · cases hr
 · obtain ⟨v, rfl, iv⟩ := isAll_one is
   cases hr
   cases iv with
   | list f1 h1 s1 => exact ⟨_, _, rfl, .inl ⟨_, .of h1, s1.length.symm⟩, k _ H (.o _) (.refl _ _) (Is.int _) q⟩
 · obtain ⟨v, rfl, iv⟩ := isAll_one is
   cases hr
   cases iv with
   | tuple h1 s1 => exact ⟨_, _, rfl, .inr ⟨_, h1, s1.length.symm⟩, k _ H (.o _) (.refl _ _) (Is.int _) q⟩
 · cases hr
def tupF : List PyData → Option R
 | [.list ds] => some (.o (.tuple ds))
 | [.tuple ds] => some (.o (.tuple ds))
 | _ => none
theorem cd_tuple : CallD K O (fun xs H Q => ∃ p ys, xs = [.ref p] ∧ ((SqL K H p ys ∧ ∀ l, H l = none → Q (.ref l) (upd H l (.tup ys))) ∨ (SqT K H p ys ∧ Q (.ref p) H))) (fn1 tupF) := fun H vs ds Q Qd ok p is ⟨r, hr, q⟩ k => by
 unfold tupF at hr
 split at hr
 · obtain ⟨v, rfl, iv⟩ := isAll_one is
   cases hr
   cases iv with
   | list f1 h1 s1 =>
     refine ⟨_, _, rfl, .inl ⟨.of h1, fun l hl => ?_⟩⟩
     obtain ⟨a1, a2⟩ := out_tup ok hl s1
     exact k _ _ _ a1 a2 q
 · obtain ⟨v, rfl, iv⟩ := isAll_one is
   cases hr
   cases iv with
   | tuple h1 s1 => exact ⟨_, _, rfl, .inr ⟨h1, k _ H (.o _) (.refl _ _) (Is.tuple h1 s1) q⟩⟩
 · cases hr
end
end L3
namespace L3
open PySem PySem.Spec
open PyProof.Rows hiding St
open L2
structure Ctx3 {ι : Type} (P : Program) (w : World) (K : PySem.W.Frag) (mg : Str → Option Value) (base : Heap) (k : Nat) (X : ι → Cx) : Prop where
 hP : ∀ i, (X i).prog = P
 hw : ∀ i, (X i).w = w
 hK : ∀ i, (X i).K = K
 hmg : ∀ i, (X i).mg = mg
 hb : ∀ i, (X i).base = base
 calm : ∀ i, (X i).calm = true
 room : ∀ i, Room k (X i).A
 xe : ∀ i, (X i).xe = fun _ _ => False
def E3 {ι κ : Type} (K : PySem.W.Frag) (X : ι → Cx) (O : κ → Ob) (e : Expr) (f : DE) : Prop := ∃ t, (∀ i, PE (X i) e t) ∧ ∀ j, ED K (O j) t f
def T3 {ι κ : Type} (K : PySem.W.Frag) (X : ι → Cx) (O : κ → Ob) (e : Expr) (f : DT) : Prop := ∃ t, (∀ i, PT (X i) e t) ∧ ∀ j, TD K (O j) t f
def W3 {ι κ : Type} (K : PySem.W.Frag) (X : ι → Cx) (O : κ → Ob) (e : Expr) (f : DT) : Prop := ∃ t, (∀ i, PW (X i) e t) ∧ ∀ j, TD K (O j) t f
def A3 {ι κ : Type} (K : PySem.W.Frag) (X : ι → Cx) (O : κ → Ob) (es : List Expr) (f : DA) : Prop := ∃ t, (∀ i, PA (X i) es t) ∧ ∀ j, AD K (O j) t f
def I3 {ι κ : Type} (K : PySem.W.Frag) (X : ι → Cx) (O : κ → Ob) (tg e : Expr) (f : DI) : Prop := ∃ t, (∀ i, PI (X i) tg e t) ∧ ∀ j, SrcS K (O j) t f
def J3 {ι κ : Type} (K : PySem.W.Frag) (X : ι → Cx) (O : κ → Ob) (tg e : Expr) (f : DJ) : Prop := ∃ t, (∀ i, PI (X i) tg e t) ∧ ∀ j, SrcR K (O j) t f
def S3 {ι κ : Type} (K : PySem.W.Frag) (X : ι → Cx) (O : κ → Ob) (s : Stmt) (g : DS) : Prop := ∃ t, (∀ i, PS (X i) s t) ∧ ∀ j, SD K (O j) t g
def Ss3 {ι κ : Type} (K : PySem.W.Frag) (X : ι → Cx) (O : κ → Ob) (s : List Stmt) (g : DS) : Prop := ∃ t, (∀ i, PSs (X i) s t) ∧ ∀ j, SD K (O j) t g
def G3 {ι : Type} (K : PySem.W.Frag) (X : ι → Cx) (h : Nat) (tg : Expr) (g : DG) : Prop := ∃ t, (∀ i, PG (X i) tg t) ∧ (∀ O : Ob, GS K O t g) ∧ (∀ O : Ob, GR K O t g) ∧ OwnG h t
section
variable {ι κ : Type} {P : Program} {w : World} {K : PySem.W.Frag} {mg : Str → Option Value} {base : Heap} {k : Nat} {X : ι → Cx} {O : κ → Ob} {a b c : Expr} {fa fb fc : DE} {pos : Pos}
theorem e_var (n : Nat) {x : Str} (hN : ∀ i, (X i).N[n]? = some x := by intro i; rfl) (hv : ∀ i, Vis (X i).env.scope x := by intro i; first | exact Or.inl rfl | exact Or.inr (Or.inl rfl) | exact Or.inr (Or.inr rfl))
   (hd : (x == ("__debug__" : Str)) = false := by decide) (hcd : (x == ("__classdict__" : Str)) = false := by decide) : E3 K X O (.Name x pos) (vD n) := ⟨_, fun i => pe_var (hN i) (hv i) hd hcd, fun j => ed_var⟩
theorem e_int {n : Int} {j : Nat} : E3 K X O (.Constant (.int n) j pos) (cD (.int n)) := ⟨_, fun i => pe_int, fun j => ed_int⟩
theorem e_str {x : Str} {j : Nat} : E3 K X O (.Constant (.str x) j pos) (cD (.str x)) := ⟨_, fun i => pe_str, fun j => ed_str⟩
theorem e_bl {x : Bool} {j : Nat} : E3 K X O (.Constant (.bool x) j pos) (cD (.bool x)) := ⟨_, fun i => pe_bl, fun j => ed_bl⟩
theorem e_op {op : Operator} {r : R2} {F : PyData → PyData → (R → Prop) → Prop} (ho : ∀ i, OpR (X i) (binaryOp op) r) (hd : ∀ j, OpD K (O j) r F) (ha : E3 K X O a fa) (hb : E3 K X O b fb) : E3 K X O (.BinOp a op b pos) (opDE F fa fb) :=
 let ⟨_, p1, d1⟩ := ha; let ⟨_, p2, d2⟩ := hb; ⟨_, fun i => pe_op (ho i) (p1 i) (p2 i), fun j => ed_op (hd j) (d1 j) (d2 j)⟩
theorem e_add (C : Ctx3 P w K mg base k X) (ha : E3 K X O a fa) (hb : E3 K X O b fb) : E3 K X O (.BinOp a .Add b pos) (opDE (fn2 addF) fa fb) := e_op (fun i => by have h := op_addU (X := X i); rw [C.hK] at h; exact h) (fun _ => opd_add) ha hb
theorem t_cmp {op : CmpOp} {r : R2} {F : PyData → PyData → (R → Prop) → Prop} (ho : ∀ i, OpR (X i) (compareOp op) r) (hd : ∀ j, OpD K (O j) r F) (ha : E3 K X O a fa) (hb : E3 K X O b fb) (hm : behindInMarks op b = false) : T3 K X O (.Compare a [op] [b] pos) (bD (opDE F fa fb)) :=
 let ⟨_, p1, d1⟩ := ha; let ⟨_, p2, d2⟩ := hb; ⟨_, fun i => pt_cmpR (ho i) (p1 i) (p2 i) hm, fun j => td_val (ed_op (hd j) (d1 j) (d2 j))⟩
theorem oR_eq (C : Ctx3 P w K mg base k X) : ∀ i, OpR (X i) (compareOp .Eq) (rEqD K false) := fun i => by have h := op_eqD (X := X i) (C.room i).units; rw [C.hK] at h; exact h
theorem oR_ne (C : Ctx3 P w K mg base k X) : ∀ i, OpR (X i) (compareOp .NotEq) (rEqD K true) := fun i => by have h := op_neD (X := X i) (C.room i).units; rw [C.hK] at h; exact h
theorem oR_in (C : Ctx3 P w K mg base k X) : ∀ i, OpR (X i) (compareOp .In) (rInU K) := fun i => by have h := op_inU (X := X i) (C.room i).units; rw [C.hK] at h; exact h
theorem oR_notIn (C : Ctx3 P w K mg base k X) : ∀ i, OpR (X i) (compareOp .NotIn) (rNotInU K) := fun i => by have h := op_notInU (X := X i) (C.room i).units; rw [C.hK] at h; exact h
theorem t_eq (C : Ctx3 P w K mg base k X) (ha : E3 K X O a fa) (hb : E3 K X O b fb) : T3 K X O (.Compare a [.Eq] [b] pos) (bD (opDE (fn2 (eqF false)) fa fb)) := t_cmp (oR_eq C) (fun _ => opd_eq false) ha hb (nomark b)
theorem t_ne (C : Ctx3 P w K mg base k X) (ha : E3 K X O a fa) (hb : E3 K X O b fb) : T3 K X O (.Compare a [.NotEq] [b] pos) (bD (opDE (fn2 (eqF true)) fa fb)) := t_cmp (oR_ne C) (fun _ => opd_eq true) ha hb (nomark b)
theorem t_lt (ha : E3 K X O a fa) (hb : E3 K X O b fb) : T3 K X O (.Compare a [.Lt] [b] pos) (bD (opDE (fn2 (intF fun i j => .bool (decide (i < j)))) fa fb)) := t_cmp (fun i => op_lt) (fun _ => opd_lt) ha hb (nomark b)
theorem t_le (ha : E3 K X O a fa) (hb : E3 K X O b fb) : T3 K X O (.Compare a [.LtE] [b] pos) (bD (opDE (fn2 (intF fun i j => .bool (decide (i ≤ j)))) fa fb)) := t_cmp (fun i => op_le) (fun _ => opd_le) ha hb (nomark b)
theorem t_in (C : Ctx3 P w K mg base k X) (ha : E3 K X O a fa) (hb : E3 K X O b fb) (hm : behindInMarks .In b = false := by rfl) : T3 K X O (.Compare a [.In] [b] pos) (bD (opDE (fn2 (inF false)) fa fb)) := t_cmp (oR_in C) (fun _ => opd_in) ha hb hm
theorem t_notIn (C : Ctx3 P w K mg base k X) (ha : E3 K X O a fa) (hb : E3 K X O b fb) (hm : behindInMarks .NotIn b = false := by rfl) : T3 K X O (.Compare a [.NotIn] [b] pos) (bD (opDE (fn2 (inF true)) fa fb)) := t_cmp (oR_notIn C) (fun _ => opd_notIn) ha hb hm
variable {ft fu : DT} {rest : List Expr}
theorem t_val (ha : E3 K X O a fa) (he : ∀ i whole, isTrue a (X i).env whole = (do let v ← whole; standAt a.pos; holding [v] (truthy v)) := by intro _ _; rfl) : T3 K X O a (bD fa) := let ⟨_, p, d⟩ := ha; ⟨_, fun i => pt_val (p i) (he i), fun j => td_valB (d j)⟩
theorem t_not (h : T3 K X O a ft) : T3 K X O (.UnaryOp .Not a pos) (notT ft) := let ⟨_, p, d⟩ := h; ⟨_, fun i => pt_not (p i), fun j => td_not (d j)⟩
theorem w_and1 (h : T3 K X O a ft) : W3 K X O (.BoolOp .And [a] pos) ft := let ⟨_, p, d⟩ := h; ⟨_, fun i => pw_and1 (p i), d⟩
theorem w_or1 (h : T3 K X O a ft) : W3 K X O (.BoolOp .Or [a] pos) ft := let ⟨_, p, d⟩ := h; ⟨_, fun i => pw_or1 (p i), d⟩
theorem w_and (h : T3 K X O a ft) (h' : W3 K X O (.BoolOp .And (b :: rest) pos) fu) : W3 K X O (.BoolOp .And (a :: b :: rest) pos) (andT ft fu) := let ⟨_, p, d⟩ := h; let ⟨_, p2, d2⟩ := h'; ⟨_, fun i => pw_and (p i) (p2 i), fun j => td_and (d j) (d2 j)⟩
theorem w_or (h : T3 K X O a ft) (h' : W3 K X O (.BoolOp .Or (b :: rest) pos) fu) : W3 K X O (.BoolOp .Or (a :: b :: rest) pos) (orT ft fu) := let ⟨_, p, d⟩ := h; let ⟨_, p2, d2⟩ := h'; ⟨_, fun i => pw_or (p i) (p2 i), fun j => td_or (d j) (d2 j)⟩
theorem t_w (h : W3 K X O a ft) : T3 K X O a ft := let ⟨_, p, d⟩ := h; ⟨_, fun i => (p i).pt, d⟩
theorem e_one {op : BoolOp} (h : E3 K X O a fa) : E3 K X O (.BoolOp op [a] pos) fa := let ⟨_, p, d⟩ := h; ⟨_, fun i => pe_one (p i), d⟩
theorem e_and (h : E3 K X O a fa) (h' : E3 K X O (.BoolOp .And (b :: rest) pos) fb) : E3 K X O (.BoolOp .And (a :: b :: rest) pos) (andV fa fb) := let ⟨_, p, d⟩ := h; let ⟨_, p2, d2⟩ := h'; ⟨_, fun i => pe_and (p i) (p2 i), fun j => ed_andV (d j) (d2 j)⟩
theorem e_not (h : E3 K X O a fa) : E3 K X O (.UnaryOp .Not a pos) (notV fa) := let ⟨_, p, d⟩ := h; ⟨_, fun i => pe_not (p i), fun j => ed_notV (d j)⟩
theorem e_if (hc : T3 K X O c ft) (ha : E3 K X O a fa) (hb : E3 K X O b fb) : E3 K X O (.IfExp c a b pos) (ifD ft fa fb) := let ⟨_, p, d⟩ := hc; let ⟨_, p1, d1⟩ := ha; let ⟨_, p2, d2⟩ := hb; ⟨_, fun i => pe_ifExp (p i) (p1 i) (p2 i), fun j => ed_if (d j) (d1 j) (d2 j)⟩
variable {es : List Expr} {ga : DA}
theorem a_nil : A3 K X O [] aNil := ⟨_, fun i => pa_nil, fun j => ad_nil⟩
theorem a_cons (ha : E3 K X O a fa) (hr : A3 K X O es ga) (hs : ∀ i, starEach (a :: es) (X i).env = (false, eval a (X i).env) :: starEach es (X i).env := by intro i; rfl) : A3 K X O (a :: es) (aCons fa ga) := let ⟨_, p, d⟩ := ha; let ⟨_, p2, d2⟩ := hr; ⟨_, fun i => pa_cons (p i) (p2 i) (hs i), fun j => ad_cons (d j) (d2 j)⟩
theorem e_tup {n : Nat} (h : A3 K X O es ga) : E3 K X O (.Tuple es n pos) (tupD ga) := let ⟨_, p, d⟩ := h; ⟨_, fun i => pe_tup (p i), fun j => ed_tup (d j)⟩
theorem e_lst (h : A3 K X O es ga) : E3 K X O (.List es pos) (lstD ga) := let ⟨_, p, d⟩ := h; ⟨_, fun i => pe_lst (p i), fun j => ed_lst (d j)⟩
theorem e_idx (C : Ctx3 P w K mg base k X) (ha : E3 K X O a fa) (hb : E3 K X O b fb) (hs : PlainIx b := by intro _ _; rfl) : E3 K X O (.Subscript a b pos) (opDE (fn2 idxF) fa fb) :=
 let ⟨_, p1, d1⟩ := ha; let ⟨_, p2, d2⟩ := hb; ⟨tOp (rIx K) _ _, fun i => by have h := pe_ix (pos := pos) (ix_seq (X := X i)) (p1 i) (p2 i) hs; rw [C.hK] at h; exact h, fun j => ed_op opd_idx (d1 j) (d2 j)⟩
theorem e_blt {x : Str} {id : String} {r : List V → Hp → VK → Prop} {F : List PyData → (R → Prop) → Prop} {p : Pos} (C : Ctx3 P w K mg base k X) (hc : ∀ i, CallR (X i) (.builtin id) r) (hd : ∀ j, CallD K (O j) r F) (hv : bootBuiltins x = some (.builtin id)) (hm : mg x = none) (ha : A3 K X O (a :: es) ga)
   (hg : ∀ i, Gl (X i) x := by intro i; rfl) (hn : x ≠ "__name__" := by decide) (hdb : (x == ("__debug__" : Str)) = false := by decide) (he : ∀ i, starEach (a :: es) (X i).env = (false, eval a (X i).env) :: starEach es (X i).env := by intro i; rfl) (hpl : ∀ i, (backTo pos (starEach es (X i).env)).any (·.1) = false := by intro i; rfl) :
   E3 K X O (.Call (.Name x p) (a :: es) [] pos) (callDE F ga) := let ⟨_, q, d⟩ := ha; ⟨_, fun i => pe_callB (hc i) (hg i) (by rw [C.hmg]; exact hm) hv (q i) hn hdb (he i) (hpl i), fun j => ed_callB (hd j) (d j)⟩
theorem e_bty {x : Str} {T : String} {r : List V → Hp → VK → Prop} {F : List PyData → (R → Prop) → Prop} {p : Pos} (C : Ctx3 P w K mg base k X) (hc : ∀ i, CallR (X i) (.type T) r) (hd : ∀ j, CallD K (O j) r F) (hv : bootBuiltins x = some (.type T)) (hm : mg x = none) (ha : A3 K X O (a :: es) ga)
   (hg : ∀ i, Gl (X i) x := by intro i; rfl) (hn : x ≠ "__name__" := by decide) (hdb : (x == ("__debug__" : Str)) = false := by decide) (he : ∀ i, starEach (a :: es) (X i).env = (false, eval a (X i).env) :: starEach es (X i).env := by intro i; rfl) (hpl : ∀ i, (backTo pos (starEach es (X i).env)).any (·.1) = false := by intro i; rfl) :
   E3 K X O (.Call (.Name x p) (a :: es) [] pos) (callDE F ga) := let ⟨_, q, d⟩ := ha; ⟨_, fun i => pe_callTy (hc i) (hg i) (by rw [C.hmg]; exact hm) hv (q i) hn hdb (he i) (hpl i), fun j => ed_callB (hd j) (d j)⟩
end
end L3
namespace L3
open PySem PySem.Spec
open PyProof.Rows hiding St
open L2
theorem bt_len : bootBuiltins "len" = some (.builtin "len") := by decide +kernel
theorem bt_sorted : bootBuiltins "sorted" = some (.builtin "sorted") := by decide +kernel
theorem bt_list : bootBuiltins "list" = some (.type "list") := by decide +kernel
theorem bt_tuple : bootBuiltins "tuple" = some (.type "tuple") := by decide +kernel
structure Blt (mg : Str → Option Value) : Prop where
 len : mg "len" = none
 all : mg "all" = none
 any : mg "any" = none
 sorted : mg "sorted" = none
 min : mg "min" = none
 max : mg "max" = none
 repr : mg "repr" = none
 int : mg "int" = none
 list : mg "list" = none
 tuple : mg "tuple" = none
 range : mg "range" = none
 set : mg "set" = none
 isinstance : mg "isinstance" = none
 enumerate : mg "enumerate" = none
 zip : mg "zip" = none
 reversed : mg "reversed" = none
 str : mg "str" = none
 sum : mg "sum" = none
 dict : mg "dict" = none
 bool : mg "bool" = none
structure Def3 (P : Program) (w : World) (K : PySem.W.Frag) (mg : Str → Option Value) (base : Heap) (k : Nat) (x : Str) (ps : List Str) (sp : Sp) : Prop where
 ex : ∃ f fd, FnOk P w K mg base CX0 k f fd ps sp ∧ mg x = some (.ref f) ∧ PySem.W.keepIn K (.ref f) = true ∧ Binds K fd ps []
structure Top3 (K : PySem.W.Frag) (mg : Str → Option Value) (x : Str) (st : Stmt) : Prop where
 ex : ∃ f fd, Fun K x x st f fd ∧ mg x = some (.ref f)
structure CIx where
 C : Addr
 s : Shared
 H : Hp
 ex : List Addr
def compX {ι : Type} (X : ι → Cx) (scope : Scope) (N' : List Str) : ι × CIx → Cx := fun p => compCx (X p.1) scope N' p.2.C p.2.s p.2.H p.2.ex
def compO {κ : Type} (O : κ → Ob) : { p : κ × (Addr × List V) // ¬ (O p.1).M p.2.1 } → Ob := fun p => (O p.1.1).plus p.1.2.1 (.lst p.1.2.2)
def F3 {ι κ : Type} (K : PySem.W.Frag) (X : ι → Cx) (O : κ → Ob) (ifs : List Expr) (f : DT) : Prop := ∃ t, (∀ i, PF (X i) ifs t) ∧ ∀ j, TD K (O j) t f
section
variable {ι κ : Type} {P : Program} {w : World} {K : PySem.W.Frag} {mg : Str → Option Value} {base : Heap} {k : Nat} {X : ι → Cx} {O : κ → Ob} {a b c tg : Expr} {fa fb fc : DE} {pos p : Pos} {es : List Expr} {ga : DA}
theorem Ctx3.comp (C : Ctx3 P w K mg base k X) (scope : Scope) (N' : List Str) : Ctx3 P w K mg base k (compX X scope N') := ⟨fun i => C.hP i.1, fun i => C.hw i.1, fun i => C.hK i.1, fun i => C.hmg i.1, fun i => C.hb i.1, fun i => C.calm i.1, fun i => C.room i.1, fun _ => rfl⟩
theorem e_len (C : Ctx3 P w K mg base k X) (B : Blt mg) (ha : A3 K X O [a] ga) (hg : ∀ i, Gl (X i) "len" := by intro i; rfl) (he : ∀ i, starEach [a] (X i).env = (false, eval a (X i).env) :: starEach [] (X i).env := by intro i; rfl) : E3 K X O (.Call (.Name "len" p) [a] [] pos) (callDE (fn1 lenF) ga) :=
 e_blt C (fun i => by have h := call_len (X := X i); rw [C.hK] at h; exact h) (fun _ => cd_len) bt_len B.len ha hg (by decide) (by decide) he
theorem e_tuplec (C : Ctx3 P w K mg base k X) (B : Blt mg) (ha : A3 K X O [a] ga) (hg : ∀ i, Gl (X i) "tuple" := by intro i; rfl) (he : ∀ i, starEach [a] (X i).env = (false, eval a (X i).env) :: starEach [] (X i).env := by intro i; rfl) : E3 K X O (.Call (.Name "tuple" p) [a] [] pos) (callDE (fn1 tupF) ga) :=
 e_bty C (fun i => by have h := call_tuple_of (X := X i); rw [C.hK] at h; exact h) (fun _ => cd_tuple) bt_tuple B.tuple ha hg (by decide) (by decide) he
theorem e_call {k' n : Nat} {x : Str} {ps : List Str} {φ : Ob → Prop} {F : List PyData → (R → Prop) → Prop} (C : Ctx3 P w K mg base k X) (D : Def3 P w K mg base k' x ps (spO K φ n F)) (hφ : ∀ j, φ (O j)) (ha : A3 K X O (a :: es) ga) (hk : k' ≤ k := by decide) (hg : ∀ i, Gl (X i) x := by intro i; rfl)
   (hdb : (x == ("__debug__" : Str)) = false := by decide) (he : ∀ i, starEach (a :: es) (X i).env = (false, eval a (X i).env) :: starEach es (X i).env := by intro i; rfl) (hpl : ∀ i, (backTo pos (starEach es (X i).env)).any (·.1) = false := by intro i; rfl) : E3 K X O (.Call (.Name x p) (a :: es) [] pos) (calD n F ga) := by
 obtain ⟨f, fd, G, m, kp, bn⟩ := D.ex
 obtain ⟨t, q, d⟩ := ha
 refine ⟨tCall (spO K φ n F) [] E0 t, fun i => ?_, fun j => ed_call (hφ j) (d j)⟩
 have G' : FnOk (X i).prog (X i).w (X i).K (X i).mg (X i).base CX0 k f fd ps (spO K φ n F) := by rw [C.hP, C.hw, C.hK, C.hmg, C.hb]; exact G.mono hk
 exact pe_call G' (C.room i) (hg i) (by rw [C.hmg]; exact m) (by rw [C.hK]; exact kp) (by rw [C.hK]; exact bn) .nil pass0 (q i) hdb (he i) (hpl i)
theorem e_callO {k' n : Nat} (v : Nat) {x y : Str} {py : Pos} {ps : List Str} {φ : Ob → Prop} {F : List PyData → (R → Prop) → Prop} (C : Ctx3 P w K mg base k X) (D : Def3 P w K mg base k' x ps (spD K φ n F)) (hφ : ∀ j, φ (O j)) (ha : A3 K X O es ga) (hk : k' ≤ k := by decide) (hg : ∀ i, Gl (X i) x := by intro i; rfl)
   (hN : ∀ i, (X i).N[v]? = some y := by intro i; rfl) (hv : ∀ i, Vis (X i).env.scope y := by intro i; first | exact Or.inl rfl | exact Or.inr (Or.inl rfl) | exact Or.inr (Or.inr rfl)) (hd : (y == ("__debug__" : Str)) = false := by decide) (hcd : (y == ("__classdict__" : Str)) = false := by decide)
   (hdb : (x == ("__debug__" : Str)) = false := by decide) (he : ∀ i, starEach (.Name y py :: es) (X i).env = (false, eval (.Name y py) (X i).env) :: starEach es (X i).env := by intro i; rfl) (hpl : ∀ i, (backTo pos (starEach es (X i).env)).any (·.1) = false := by intro i; rfl) :
   E3 K X O (.Call (.Name x p) (.Name y py :: es) [] pos) (calO v n F ga) := by
 obtain ⟨f, fd, G, m, kp, bn⟩ := D.ex
 obtain ⟨t, q, d⟩ := ha
 refine ⟨tCall (spD K φ n F) [] E0 (tCons (tVar v) t), fun i => ?_, fun j => ed_callO (hφ j) (d j)⟩
 have G' : FnOk (X i).prog (X i).w (X i).K (X i).mg (X i).base CX0 k f fd ps (spD K φ n F) := by rw [C.hP, C.hw, C.hK, C.hmg, C.hb]; exact G.mono hk
 exact pe_call G' (C.room i) (hg i) (by rw [C.hmg]; exact m) (by rw [C.hK]; exact kp) (by rw [C.hK]; exact bn) .nil pass0 (pa_cons (pe_var (hN i) (hv i) hd hcd) (q i) (he i)) hdb (he i) (hpl i)
theorem i_tup (C : Ctx3 P w K mg base k X) (ha : E3 K X O a fa) : I3 K X O tg a (srcT fa) := let ⟨_, p, d⟩ := ha; ⟨iTup K _, fun i => by have h := pi_tup (tg := tg) (p i); rw [C.hK] at h; exact h, fun j => src_tup (d j)⟩
theorem i_r1 (C : Ctx3 P w K mg base k X) (B : Blt mg) (ha : A3 K X O [a] ga) (hg : ∀ i, Gl (X i) "range" := by intro i; rfl) (hs : ∀ i, starEach [a] (X i).env = [(false, eval a (X i).env)] := by intro i; rfl) : I3 K X O tg (.Call (.Name "range" p) [a] [] pos) (srcR1 ga) :=
 let ⟨_, q, d⟩ := ha; ⟨_, fun i => pi_range1 (hg i) (by rw [C.hmg]; exact B.range) (q i) (hs i), fun j => src_rng1 (d j)⟩
theorem j_new {fi : DI} (h : I3 K X O tg a fi) : J3 K X O tg a (newJ fi) := let ⟨_, p, d⟩ := h; ⟨_, p, fun j => srcR_of (d j)⟩
theorem j_var (C : Ctx3 P w K mg base k X) (n : Nat) {x : Str} (hN : ∀ i, (X i).N[n]? = some x := by intro i; rfl) (hv : ∀ i, Vis (X i).env.scope x := by intro i; first | exact Or.inl rfl | exact Or.inr (Or.inl rfl) | exact Or.inr (Or.inr rfl)) (hd : (x == ("__debug__" : Str)) = false := by decide) (hcd : (x == ("__classdict__" : Str)) = false := by decide) :
   J3 K X O tg (.Name x pos) (varJ n) := ⟨iList K (tVar n), fun i => by have h := pi_list (tg := tg) (X := X i) (pe_var (pos := pos) (hN i) (hv i) hd hcd); rw [C.hK] at h; exact h, fun j => srcR_var⟩
theorem g_name {h : Nat} (n : Nat) {x : Str} (hlt : n < h := by decide) (hN : ∀ i, (X i).N.Nodup := by intro i; exact of_decide_eq_true (by kernel_rfl)) (hi : ∀ i, (X i).N[n]? = some x := by intro i; rfl) (hx : ∀ i, Loc (X i).env.scope x := by intro i; first | exact Or.inl rfl | exact Or.inr rfl)
   (hf : ∀ i, (X i).fn x = true ∨ (X i).env.scope.names.lookup x = some .local := by intro i; first | exact .inl rfl | exact .inr rfl) : G3 K X h (.Name x pos) (gN n) := ⟨_, fun i => pg_name (hN i) (hi i) (hx i) (hf i), fun _ => gs_name, fun _ => gr_name, own_name hlt⟩
def Gs3 {ι : Type} (K : PySem.W.Frag) (X : ι → Cx) (h : Nat) (es : List Expr) (is : List Nat) : Prop := ∃ t, (∀ i, PGs (X i) es t) ∧ (∀ O : Ob, GSs K O t is) ∧ (∀ O : Ob, GRs K O t is) ∧ OwnGs h t ∧ MonGs t
theorem gq_nil {h : Nat} : Gs3 K X h [] [] := ⟨_, fun i => pgs_nil, fun _ => gss_nil, fun _ => grs_nil, own_nil, mon_nil⟩
theorem gq_cons {h : Nat} {es : List Expr} {is : List Nat} (n : Nat) {x : Str} (hr : Gs3 K X h es is) (hlt : n < h := by decide) (hN : ∀ i, (X i).N.Nodup := by intro i; exact of_decide_eq_true (by kernel_rfl)) (hi : ∀ i, (X i).N[n]? = some x := by intro i; rfl) (hx : ∀ i, Loc (X i).env.scope x := by intro i; first | exact Or.inl rfl | exact Or.inr rfl)
   (hf : ∀ i, (X i).fn x = true ∨ (X i).env.scope.names.lookup x = some .local := by intro i; first | exact .inl rfl | exact .inr rfl) (hs : ∀ i, (assignEach (.Name x pos :: es) (X i).env).map (·.2) = assign (.Name x pos) (X i).env :: (assignEach es (X i).env).map (·.2) := by intro i; rfl) : Gs3 K X h (.Name x pos :: es) (n :: is) :=
 let ⟨_, p, d1, d2, o, m⟩ := hr; ⟨_, fun i => pgs_cons (pg_name (hN i) (hi i) (hx i) (hf i)) (p i) (hs i), fun O => gss_cons (d1 O), fun O => grs_cons (d2 O), own_cons mon_name m (own_name hlt) o, mon_cons mon_name m⟩
theorem g_tup {h n : Nat} {es : List Expr} {is : List Nat} {j : Nat} (C : Ctx3 P w K mg base k X) (hr : Gs3 K X h es is) (hn : is.length = n := by rfl) (hn2 : ∀ i, (assignEach es (X i).env).length = n := by intro i; rfl) (hst : ∀ i, (assignEach es (X i).env).findIdx? (·.1) = none := by intro i; rfl) : G3 K X h (.Tuple es j pos) (gT is) :=
 let ⟨_, p, d1, d2, o, m⟩ := hr; ⟨_, fun i => by have z := pg_tup (pos := pos) (k := j) (C.calm i) (p i) (hn2 i) (hst i); rw [C.hK] at z; exact z, fun O => gs_tup hn (d1 O), fun O => gr_tup hn (d2 O), own_tup o⟩
theorem f_one {ft : DT} (h : T3 K X O c ft) : F3 K X O [c] ft := let ⟨_, p, d⟩ := h; ⟨_, fun i => pf_one (p i), d⟩
theorem e_comp {elt iter : Expr} {ifs : List Expr} {scope : Scope} {fi : DI} {g : DG} {ft : DT} {fe : DE} (h : Nat) (N' : List Str) (C : Ctx3 P w K mg base k X) (S : ∀ i, ScopeOk h N' (X i).N scope (X i).env.scope) (hs : I3 K X O tg iter fi)
   (hg : G3 K (compX X scope N') h tg g) (hf : F3 K (compX X scope N') (compO O) ifs ft) (he : E3 K (compX X scope N') (compO O) elt fe) (hset : ∀ i x, foldedSetIterable iter (X i).env x = pure x := by intro _ _; rfl) :
   E3 K X O (.ListComp elt [⟨tg, iter, ifs, 0⟩] scope pos) (compD h fi g ft fe) := by
 obtain ⟨ti, p1, d1⟩ := hs
 obtain ⟨tg', p2, d2, _, ow⟩ := hg
 obtain ⟨tf, p3, d3⟩ := hf
 obtain ⟨te, p4, d4⟩ := he
 exact ⟨_, fun i => pe_comp h (S i) (C.calm i) (p1 i) (fun c s H ex => p2 (i, ⟨c, s, H, ex⟩)) ow (fun c s H ex => p3 (i, ⟨c, s, H, ex⟩)) (fun c s H ex => p4 (i, ⟨c, s, H, ex⟩)) (hset i), fun j => ed_comp (d1 j) d2 (fun D xs nm => d3 ⟨(j, (D, xs)), nm⟩) fun D xs nm => d4 ⟨(j, (D, xs)), nm⟩⟩
variable {st : Stmt} {sts : List Stmt} {g1 g2 : DS} {ft : DT}
theorem ss_nil : Ss3 K X O [] (fun Dd ρ => Dd.nx ρ) := ⟨_, fun i => pss_nil, fun j => sd_next⟩
theorem ss_one (h : S3 K X O st g1) : Ss3 K X O [st] g1 := let ⟨_, p, d⟩ := h; ⟨_, fun i => pss_one (p i), d⟩
theorem ss_cons (h : S3 K X O st g1) (h' : Ss3 K X O sts g2) : Ss3 K X O (st :: sts) (seqD g1 g2) := let ⟨_, p, d⟩ := h; let ⟨_, p2, d2⟩ := h'; ⟨_, fun i => pss_cons (p i) (p2 i), fun j => sd_seq (d j) (d2 j)⟩
theorem s_ret (ha : E3 K X O a fa) : S3 K X O (.Return (some a) pos) (retS fa) := let ⟨_, p, d⟩ := ha; ⟨_, fun i => ps_ret (p i), fun j => sd_ret (d j)⟩
theorem s_if {sa sb : List Stmt} (hc : T3 K X O c ft) (h : Ss3 K X O sa g1) (h' : Ss3 K X O sb g2) : S3 K X O (.If c sa sb pos) (ifS ft g1 g2) := let ⟨_, p, d⟩ := hc; let ⟨_, p1, d1⟩ := h; let ⟨_, p2, d2⟩ := h'; ⟨_, fun i => ps_if (p i) (p1 i) (p2 i), fun j => sd_if (d j) (d1 j) (d2 j)⟩
theorem s_set (n : Nat) {x : Str} {px : Pos} (ha : E3 K X O a fa) (hN : ∀ i, (X i).N.Nodup := by intro i; exact of_decide_eq_true (by kernel_rfl)) (hi : ∀ i, (X i).N[n]? = some x := by intro i; rfl) (hx : ∀ i, Loc (X i).env.scope x := by intro i; first | exact Or.inl rfl | exact Or.inr rfl)
   (hs : ∀ i, swapsWith a (some (.Name x px)) pos.line (X i).env = pure false := by intro i; rfl) (hf : ∀ i, (X i).fn x = true ∨ (X i).env.scope.names.lookup x = some .local := by intro i; first | exact .inl rfl | exact .inr rfl) : S3 K X O (.Assign [.Name x px] a pos) (asgS n fa) :=
 let ⟨_, p, d⟩ := ha; ⟨_, fun i => ps_set (hN i) (hi i) (hx i) (p i) (hs i) (hf i), fun j => sd_asg (d j)⟩
theorem mtr_append {X : Cx} : MtR X "list.append" rAppend := fun pins s σ H x xs v us Q I rx rv h => mt_append pins s σ H x xs v us Q I rx rv h
theorem s_app (n : Nat) {x : Str} {px apos cpos : Pos} (C : Ctx3 P w K mg base k X) (hb : E3 K X O b fb) (hN : ∀ i, (X i).N[n]? = some x := by intro i; rfl) (hv : ∀ i, Vis (X i).env.scope x := by intro i; first | exact Or.inl rfl | exact Or.inr (Or.inl rfl) | exact Or.inr (Or.inr rfl)) (hd : (x == ("__debug__" : Str)) = false := by decide) (hcd : (x == ("__classdict__" : Str)) = false := by decide)
   (hbase : ∀ i, attributeBase (.Name x px) "append" (X i).env (eval (.Name x px) (X i).env) = eval (.Name x px) (X i).env := by intro i; rfl)
   (hfew : ∀ i, ((backTo cpos (starEach [b] (X i).env)).all (fun x => !x.1) && (backToKw cpos (keywordEach [] (X i).env)).all (fun x => x.1.isSome) && decide (([b] : List Expr).length + ([] : List Keyword).length + (if ([] : List Keyword).isEmpty then 0 else 1) < 30)) = true := by intro i; rfl)
   (hline : (apos.endLine == cpos.line) = true := by rfl) (hs : ∀ i, starEach [b] (X i).env = [(false, eval b (X i).env)] := by intro i; rfl) (hsw : ∀ i, swapsWith (.Call (.Attribute (.Name x px) "append" apos) [b] [] cpos) none pos.line (X i).env = pure false := by intro i; rfl) :
   S3 K X O (.Expr (.Call (.Attribute (.Name x px) "append" apos) [b] [] cpos) pos) (appS n fb) := let ⟨_, p2, d2⟩ := hb;
 ⟨tDrop (tBM K "list" rAppend (tVar n) (tCons _ tNil)), fun i => by
   have h := pe_bm (apos := apos) (cpos := cpos) PySem.F.plainAttrs_list PySem.F.slot_list_append PySem.F.type_list_append (mtr_append (X := X i)) (pe_var (pos := px) (hN i) (hv i) hd hcd) (pa_cons (p2 i) pa_nil (hs i)) (hbase i) (hfew i) hline (hs i)
   rw [C.hK] at h
   exact ps_expr h (hsw i), fun j => sd_append (d2 j)⟩
theorem passes_never {X : Cx} (h : X.xe = fun _ _ => False) : PassesOwn (model X.prog X.w) X.A X.env X.xe := by rw [h]; exact PassesOwn.never
theorem s_for {iter : Expr} {body : List Stmt} {fj : DJ} {g : DG} {hh : Nat} (C : Ctx3 P w K mg base k X) (hi : J3 K X O tg iter fj) (hg : G3 K X hh tg g) (hb : Ss3 K X O body g1) (hs : ∀ i x, foldedSetIterable iter (X i).env x = pure x := by intro _ _; rfl) : S3 K X O (.For tg iter body [] pos) (forS fj g g1) := by
 obtain ⟨ti, p1, d1⟩ := hi
 obtain ⟨tg', p2, _, d2, _⟩ := hg
 obtain ⟨tb, p3, d3⟩ := hb
 exact ⟨_, fun i => ps_for (passes_never (C.xe i)) (C.calm i) (p1 i) (p2 i) (p3 i) (hs i), fun j => sd_for (d1 j) (d2 (O j)) (d3 j)⟩
theorem s_while {body : List Stmt} (C : Ctx3 P w K mg base k X) (hc : T3 K X O c ft) (hb : Ss3 K X O body g1) : S3 K X O (.While c body [] pos) (whileS ft g1) := let ⟨_, p, d⟩ := hc; let ⟨_, p2, d2⟩ := hb; ⟨_, fun i => ps_while (passes_never (C.xe i)) (p i) (p2 i), fun j => sd_while (d j) (d2 j)⟩
end
theorem len1 {fd : FuncData} {p0 : Str} {us : List Value} (hl : us.length = 1) (h : ∀ u0, bindArgs fd ⟨[u0], []⟩ = pure ([p0].zip [u0])) : bindArgs fd ⟨us, []⟩ = pure ([p0].zip us) := by
 match us, hl with
 | [u0], _ => exact h u0
theorem len2 {fd : FuncData} {p0 p1 : Str} {us : List Value} (hl : us.length = 2) (h : ∀ u0 u1, bindArgs fd ⟨[u0, u1], []⟩ = pure ([p0, p1].zip [u0, u1])) : bindArgs fd ⟨us, []⟩ = pure ([p0, p1].zip us) := by
 match us, hl with
 | [u0, u1], _ => exact h u0 u1
section
variable {P : Program} {w : World} {K : PySem.W.Frag} {mg : Str → Option Value} {base : Heap} {k n : Nat} {x : Str} {st : Stmt} {N ps : List Str} {φ : Ob → Prop} {F : List PyData → (R → Prop) → Prop}
abbrev bodyX (P : Program) (w : World) (K : PySem.W.Frag) (mg : Str → Option Value) (base : Heap) (N : List Str) (x : Str) (sc : Scope) (f : Addr) (cdv : Value) (A : Around) (outer : List Env) (s : Shared) (H : Hp) (E : XK) : Unit → Cx := fun _ => (cxOf CX0 P w K mg base N x sc f cdv A outer s H E).nox
theorem ctx_body {f : Addr} {cdv : Value} {A : Around} {outer : List Env} {s : Shared} {H : Hp} {E : XK} {sc : Scope} (hr : Room k (A.deeper (envOfC x sc s.heap.objs.size f cdv))) : Ctx3 P w K mg base k (bodyX P w K mg base N x sc f cdv A outer s H E) :=
 ⟨fun _ => rfl, fun _ => rfl, fun _ => rfl, fun _ => rfl, fun _ => rfl, fun _ => rfl, fun _ => hr, fun _ => rfl⟩
theorem mk_O (T : Top3 K mg x st) (S : FnScope N ps (defScope st)) (hb : ∀ (kV doc pm : Value) (an : Option Addr) (cdv ct : Value) (us : List Value), us.length = ps.length → bindArgs (PySem.W.fnOf x x (defArgs st) (defBody st) (defScope st) .none kV doc pm an cdv ct) ⟨us, []⟩ = pure (ps.zip us)) (hn : ps.length = n)
   (body : ∀ (f : Addr) (cdv : Value) (A : Around) (outer : List Env) (s : Shared) (H : Hp) (E : XK) (O : Ob), φ O → Ctx3 P w K mg base k (bodyX P w K mg base N x (defScope st) f cdv A outer s H E) →
     ∃ g, Ss3 K (bodyX P w K mg base N x (defScope st) f cdv A outer s H E) (fun _ : Unit => O) (defBody st) g ∧ ∀ ds Qr, ds.length = n → F ds Qr → g { nx := fun _ => Qr (.o .none), rt := Qr } (dstart N (ds.map .im))) : Def3 P w K mg base (k + 1) x ps (spO K φ n F) := by
 obtain ⟨f, fd, Fu, m⟩ := T.ex
 refine ⟨f, fd, Fu.ok S (spO_len hn) (fun cdv A outer s H vs Q E hr h => ?_), m, Fu.kp, Fu.binds hb⟩
 obtain ⟨O, ds, Qr, ok, hφ, p, hl, is, q, kk⟩ := h
 obtain ⟨g, ⟨t, h1, h2⟩, h3⟩ := body f cdv A outer s H E O hφ (ctx_body hr)
 exact ⟨t, h1 (), run_O (h2 ()) ok p is (h3 ds Qr hl q) kk⟩
theorem mk_D (T : Top3 K mg x st) (S : FnScope N ps (defScope st)) (hb : ∀ (kV doc pm : Value) (an : Option Addr) (cdv ct : Value) (us : List Value), us.length = ps.length → bindArgs (PySem.W.fnOf x x (defArgs st) (defBody st) (defScope st) .none kV doc pm an cdv ct) ⟨us, []⟩ = pure (ps.zip us)) (hn : ps.length = n + 1)
   (body : ∀ (f : Addr) (cdv : Value) (A : Around) (outer : List Env) (s : Shared) (H : Hp) (E : XK) (O : Ob), φ O → Ctx3 P w K mg base k (bodyX P w K mg base N x (defScope st) f cdv A outer s H E) →
     ∃ g, Ss3 K (bodyX P w K mg base N x (defScope st) f cdv A outer s H E) (fun _ : Unit => O) (defBody st) g ∧ ∀ ds Qr, ds.length = n → F ds Qr → g { nx := fun _ => Qr (.o .none), rt := Qr } (dstart N (.ob :: ds.map .im))) : Def3 P w K mg base (k + 1) x ps (spD K φ n F) := by
 obtain ⟨f, fd, Fu, m⟩ := T.ex
 refine ⟨f, fd, Fu.ok S (spD_len hn) (fun cdv A outer s H vs Q E hr h => ?_), m, Fu.kp, Fu.binds hb⟩
 obtain ⟨O, ds, ws, Qr, ok, hφ, p, hl, rfl, is, q, kk⟩ := h
 obtain ⟨g, ⟨t, h1, h2⟩, h3⟩ := body f cdv A outer s H E O hφ (ctx_body hr)
 exact ⟨t, h1 (), run_D (h2 ()) ok p is (h3 ds Qr hl q) kk⟩
end
end L3
namespace L3
open PySem PySem.Spec
open PyProof.Rows hiding St
open L2
structure PotStp (a l : Addr) (H H' : Hp) : Prop where
 oth : ∀ b, b ≠ a → b ≠ l → H' b = H b
theorem PotStp.refl (a l : Addr) (H : Hp) : PotStp a l H H := ⟨fun _ _ _ => rfl⟩
theorem PotStp.trans {a l : Addr} {H H1 H2 : Hp} (x : PotStp a l H H1) (y : PotStp a l H1 H2) : PotStp a l H H2 := ⟨fun b h1 h2 => (y.oth b h1 h2).trans (x.oth b h1 h2)⟩
theorem PotStp.upA {a l : Addr} {H : Hp} (o : HO) : PotStp a l H (upd H a o) := ⟨fun b h1 _ => upd_ne h1⟩
theorem PotStp.upL {a l : Addr} {H : Hp} (o : HO) : PotStp a l H (upd H l o) := ⟨fun b _ h2 => upd_ne h2⟩
abbrev lenR (K : PySem.W.Frag) : List V → Hp → VK → Prop := fun xs H Q => ∃ x n, xs = [x] ∧ LenV K x H n ∧ Q (.int n) H
def drawF : List PyData → (R → Prop) → Prop := fun ds Q => ∃ m : Int, ds = [.int m] ∧ 0 < m ∧ m < 1073741824 ∧ ∀ k, 0 ≤ k → k < m → Q (.o (.int k))
theorem mtr_popAt {X : Cx} : MtR X "list.pop" rPopAt := fun pins s σ H x xs v us Q I rx rv h => mt_popAt pins s σ H x xs v us Q I rx rv h
theorem cutV_map (ns : List Int) (lo hi : Option Int) : cutV (ns.map V.int) lo hi = (cutL ns lo hi).map V.int := by
 unfold cutV cutL
 rw [List.length_map, List.map_take, List.map_drop]
def abc : List Nat := (List.range 26).map (· + 97)
def isLow (c : Nat) : Prop := 97 ≤ c ∧ c < 123
theorem unsg : ∀ {zs : List Str}, (∀ z ∈ zs, ∃ c, z = sg c ∧ isLow c) → ∃ w : List Nat, zs = w.map sg ∧ ∀ c ∈ w, isLow c
 | [], _ => ⟨[], rfl, by simp⟩
 | z :: zs, h => by
   obtain ⟨c, rfl, hc⟩ := h z List.mem_cons_self
   obtain ⟨w, rfl, hw⟩ := unsg (zs := zs) fun y hy => h y (List.mem_cons_of_mem _ hy)
   exact ⟨c :: w, rfl, fun d hd => by rcases List.mem_cons.mp hd with e | e; (rw [e]; exact hc); exact hw d e⟩
theorem erase_map {α β : Type} (f : α → β) : ∀ (l : List α) (i : Nat), (l.map f).eraseIdx i = (l.eraseIdx i).map f
 | [], _ => rfl
 | _ :: _, 0 => rfl
 | a :: l, i + 1 => by rw [List.map_cons, List.eraseIdx_cons_succ, List.eraseIdx_cons_succ, List.map_cons, erase_map f l i]
theorem eraseIdx_mem {α : Type} {l : List α} {i : Nat} {x : α} (h : x ∈ l.eraseIdx i) : x ∈ l := List.mem_of_mem_eraseIdx h
theorem perm_pick {α : Type} : ∀ {l : List α} {i : Nat} (h : i < l.length), ([l[i]] ++ l.eraseIdx i).Perm l
 | a :: l, 0, _ => .refl _
 | a :: l, i + 1, h => by
   have h' : i < l.length := by simpa using h
   have ih := perm_pick (l := l) (i := i) h'
   show (l[i] :: a :: l.eraseIdx i).Perm (a :: l)
   exact (List.Perm.swap a l[i] _).trans (List.Perm.cons a ih)
theorem sg_inj {a b : Nat} (h : sg a = sg b) : a = b := by
 have := congrArg (fun x : Str => x.cps.toList) h
 simpa [sg] using this
theorem risingS_inc : ∀ {w : List Nat} {x : Nat}, risingS (sg x) (w.map sg) = true → (∀ c ∈ w, x ≤ c) ∧ w.Pairwise (· ≤ ·)
 | [], _, _ => ⟨fun _ h => (nomatch h), .nil⟩
 | y :: r, x, h => by
   have h : (!(decide (y < x) || (y == x && false)) && risingS (sg y) (r.map sg)) = true := h
   rw [Bool.and_false, Bool.or_false, Bool.and_eq_true, Bool.not_eq_true', decide_eq_false_iff_not] at h
   obtain ⟨h1, h2⟩ := risingS_inc (w := r) (x := y) h.2
   refine ⟨fun c hc => ?_, .cons h1 h2⟩
   rcases List.mem_cons.mp hc with rfl | hc
   · omega
   · have := h1 c hc
     omega
theorem sorted_inc : ∀ {w : List Nat}, sortedS (w.map sg) = true → w.Nodup → w.Pairwise (· < ·)
 | [], _, _ => .nil
 | x :: r, h, hn => by
   obtain ⟨h1, h2⟩ := risingS_inc (w := r) (x := x) h
   obtain ⟨n1, n2⟩ := List.nodup_cons.mp hn
   refine .cons (fun c hc => Nat.lt_of_le_of_ne (h1 c hc) fun e => n1 (e ▸ hc)) ?_
   exact (List.Pairwise.and h2 n2).imp fun ⟨a, b⟩ => Nat.lt_of_le_of_ne a b
end L3
namespace L3
open PySem PySem.Spec
open PyProof.Rows hiding St
open L2
theorem tx_inj {v w : List Nat} (h : tx v = tx w) : v = w := by
 have := congrArg (fun x : Str => x.cps.toList) h
 simpa [tx] using this
theorem eqF_int {neg : Bool} {i j : Int} : eqF neg (.int i) (.int j) = some (.o (.bool (if neg then !decide (i = j) else decide (i = j)))) := by
 unfold eqF
 have e : (okD (PyData.int i) && (PyData.int j).canLay0) = true := by simp [okD, PyData.canLay0, PyData.depth]
 rw [if_pos e]
 rfl
theorem forGo_rev {g : DG} {gb : DS} {Dd : DEnds} {ds : List PyData} {ρ : DSt} (J : Nat → DSt → Prop) (h0 : J 0 ρ) (fin : ∀ ρ, J ds.length ρ → Dd.nx ρ)
   (step : ∀ (j : Nat) d ρ (N : DSt → Prop), ds[j]? = some d → (∀ ρ', J (j + 1) ρ' → N ρ') → J j ρ → flat d = true ∧ g d ρ fun ρ2 => gb { Dd with nx := N, ct := N, bk := Dd.nx } ρ2) : forGo g gb Dd ds ρ := by
 have key : ∀ (k j : Nat), j + k = ds.length → ∀ ρ, J j ρ → forGo g gb Dd (ds.drop j) ρ := by
   intro k
   induction k with
   | zero =>
     intro j hj ρ h
     rw [List.drop_eq_nil_of_le (by omega)]
     have e : j = ds.length := by omega
     rw [e] at h
     exact fin ρ h
   | succ k ih =>
     intro j hj ρ h
     have hlt : j < ds.length := by omega
     rw [List.drop_eq_getElem_cons hlt]
     exact step j ds[j] ρ _ (List.getElem?_eq_getElem hlt) (fun ρ' h' => ih (j + 1) (by omega) ρ' h') h
 have := key ds.length 0 (by omega) ρ h0
 simpa using this
theorem numsD_len (lo : Int) (n : Nat) : (numsD lo n).length = n := by simp [numsD]
theorem flats_map {α : Type} {f : α → PyData} (h : ∀ a, flat (f a) = true) : ∀ l : List α, flats (l.map f) = true
 | [] => rfl
 | a :: l => by rw [List.map_cons, flats, h a, flats_map h l]; rfl
end L3
namespace L3
open PySem PySem.Spec
open PyProof.Rows hiding St
open L2
theorem tx_len (w : List Nat) : (tx w).length = w.length := by simp [tx, Str.length]
theorem len_tx {w : List Nat} (h : w.length ≤ 16777216) : lenF [.str (tx w)] = some (.o (.int w.length)) := by
 unfold lenF
 dsimp only
 rw [tx_len, if_pos (by rw [sizeLine_eq]; exact h)]
theorem add_tx {v w : List Nat} (h : v.length + w.length ≤ 16777216) : addF (.str (tx v)) (.str (tx w)) = some (.o (.str (tx (v ++ w)))) := by
 unfold addF
 dsimp only
 rw [tx_len, tx_len, if_pos (by rw [sizeLine_eq]; exact h)]
 have e : tx v ++ tx w = tx (v ++ w) := by
   show Str.mk _ = Str.mk _
   simp [tx]
 rw [e]
theorem comp_sub {α : Type} {enc : α → PyData} {i h : Nat} {ft : DT} {fe : DE} {ρ : DSt} {Q : List PyData → Prop} {as : List α}
   (step : ∀ a ∈ as, ∀ (Pn : Prop) (Py : PyData → Prop), Pn → Py (enc a) → ft ((List.replicate h none ++ ρ).set i (some (.im (enc a)))) fun t => if t = true then fe ((List.replicate h none ++ ρ).set i (some (.im (enc a)))) (fun r => Py r.d) else Pn)
   (hz : as.length ≤ 1000) (q : ∀ bs : List α, bs.Sublist as → Q (bs.map enc)) : compGo h (gN i) ft fe ρ Q (as.map enc) [] := by
 have sz := sizeLine_eq
 have key : ∀ (l : List α) (pre bs : List α), as = pre ++ l → bs.Sublist pre → compGo h (gN i) ft fe ρ Q (l.map enc) (bs.map enc) := by
   intro l
   induction l with
   | nil => intro pre bs e hb; rw [List.append_nil] at e; subst e; exact q bs hb
   | cons a l ih =>
     intro pre bs e hb
     have hbl : bs.length ≤ pre.length := hb.length_le
     have hal : as.length = pre.length + (l.length + 1) := by rw [e, List.length_append, List.length_cons]
     have e2 : as = (pre ++ [a]) ++ l := by rw [e]; simp
     refine step a (by rw [e]; simp) _ (fun d => (bs.map enc).length < sizeLine ∧ compGo h (gN i) ft fe ρ Q (l.map enc) (bs.map enc ++ [d])) (ih (pre ++ [a]) bs e2 (hb.trans (List.sublist_append_left _ _))) ⟨by rw [List.length_map]; omega, ?_⟩
     have := ih (pre ++ [a]) (bs ++ [a]) e2 (hb.append (List.Sublist.refl _))
     rwa [List.map_append] at this
 exact key as [] [] rfl (List.Sublist.refl _)
def spLaw (K : PySem.W.Frag) : Sp := fun vs H Q _ => ∃ (a : Addr) (ns : List Int), vs = [.ref a] ∧ SqL K H a (ns.map V.int) ∧ ns.length ≤ 63 ∧ ∀ H', Q (.bl true) H'
end L3
namespace L3
open PySem PySem.Spec
open PyProof.Rows hiding St
open L2
def truB : PyData → Option Bool
 | .none => some false
 | .bool b => some b
 | .int i => some (i != 0)
 | .str x => if x.length ≤ sizeLine then some ((x.length : Int) != 0) else none
 | .list ds => some (!ds.isEmpty)
 | .tuple ds => some (!ds.isEmpty)
 | _ => none
def truD (f : DE) : DT := fun ρ Q => f ρ fun r => ∃ b, truB r.d = some b ∧ Q b
section
variable {K : PySem.W.Frag} {O : Ob}
theorem isAll_empty {F : Addr → Prop} {H : Hp} {xs : List V} {ds : List PyData} (h : IsAll K F H xs ds) : xs.isEmpty = ds.isEmpty := by
 cases h <;> rfl
theorem td_tru {t : TE} {f : DE} (h : ED K O t f) : TD K O (fun σ H Q => t σ H fun x H' => ∃ k, TruV K x H' k ∧ Q k H') (truD f) := fun σ H ρ Q Qd S hf k => by
 refine h σ H ρ _ _ S hf fun v H1 r s1 o1 ⟨b, e, q⟩ => ?_
 have iv := o1.is S.ok S.p
 refine ⟨b, ?_, k b H1 s1 q⟩
 generalize r.d = d at iv e
 cases iv with
 | none => cases e; rfl
 | bool b => cases e; rfl
 | int i => cases e; rfl
 | str x =>
   have e : (if x.length ≤ sizeLine then some ((x.length : Int) != 0) else none) = some b := e
   by_cases hl : x.length ≤ sizeLine
   · rw [if_pos hl] at e
     cases e
     exact ⟨hl, rfl⟩
   · rw [if_neg hl] at e
     cases e
 | list f1 h1 s1 => cases e; exact .inl ⟨_, .of h1, by rw [isAll_empty s1]⟩
 | tuple h1 s1 => cases e; exact .inr (.inl ⟨_, h1, by rw [isAll_empty s1]⟩)
end
section
variable {ι κ : Type} {P : Program} {w : World} {K : PySem.W.Frag} {mg : Str → Option Value} {base : Heap} {k : Nat} {X : ι → Cx} {O : κ → Ob} {a b : Expr} {fa : DE} {pos p : Pos} {ga : DA}
theorem t_tru (C : Ctx3 P w K mg base k X) (ha : E3 K X O a fa) (he : ∀ i whole, isTrue a (X i).env whole = (do let v ← whole; standAt a.pos; holding [v] (truthy v)) := by intro _ _; rfl) : T3 K X O a (truD fa) := let ⟨_, q, d⟩ := ha;
 ⟨_, fun i => by have h := pt_truth (X := X i) (q i) (he i); rw [C.hK] at h; exact h, fun j => td_tru (d j)⟩
theorem mtr_pop {X : Cx} : MtR X "list.pop" rPop := fun pins s σ H x xs v us Q I rx rv h => mt_pop pins s σ H x xs v us Q I rx rv h
end
section
variable {K : PySem.W.Frag} {O : Ob}
def extS (i : Nat) (f : DE) : DS := fun Dd ρ => ∃ ds, ρ[i]? = some (some (.own ds)) ∧ f ρ fun r => ∃ es, r.d = .list es ∧ flats es = true ∧ ds.length + es.length ≤ sizeLine ∧ Dd.nx (ρ.set i (some (.own (ds ++ es))))
theorem sd_extend {i : Nat} {t : TE} {f : DE} (h : ED K O t f) : SD K O (tDrop (tBM K "list" rExtend (tVar i) (tCons t tNil))) (extS i f) := fun H₀ A σ H ρ D Dd r q P => by
 obtain ⟨ds, e, q⟩ := q
 obtain ⟨v, hv, a, xs, rfl, ha, hl, hs⟩ := r.at_ i _ e
 refine ⟨_, hv, ?_⟩
 refine ⟨.inl ⟨rfl, xs, .of hl⟩, ?_⟩
 refine h σ H ρ _ _ r.seen q fun w H1 x s1 o1 ⟨es, ed, fl, hz, q1⟩ => ?_
 have r1 := r.stp s1
 obtain ⟨v1, hv1, a1, xs1, e1, ha1, hl1, hs1⟩ := r1.at_ i _ e
 rw [hv] at hv1
 cases hv1
 cases e1
 have iw := o1.is r.ok r.p
 rw [ed] at iw
 cases iw with
 | list f1 h1 s2 =>
   refine ⟨a, _, xs1, _, rfl, rfl, hl1, h1, by rw [hs1.length, s2.length]; exact hz, ?_⟩
   exact P.nx A σ _ _ (r1.change e hv ha (hs1.append (IsAll.flats (TupStay.refl H1) s2 fl))) ((Frm.stp s1).trans (.change ha)) q1
end
section
variable {ι κ : Type} {P : Program} {w : World} {K : PySem.W.Frag} {mg : Str → Option Value} {base : Heap} {k : Nat} {X : ι → Cx} {O : κ → Ob} {a b : Expr} {fa fb : DE} {pos p : Pos} {ga : DA}
theorem bt_max : bootBuiltins "max" = some (.builtin "max") := by decide +kernel
theorem mtr_extend {X : Cx} : MtR X "list.extend" rExtend := fun pins s σ H x xs v us Q I rx rv h => mt_extend pins s σ H x xs v us Q I rx rv h
theorem s_ext (n : Nat) {x : Str} {px apos cpos : Pos} (C : Ctx3 P w K mg base k X) (hb : E3 K X O b fb) (hN : ∀ i, (X i).N[n]? = some x := by intro i; rfl) (hv : ∀ i, Vis (X i).env.scope x := by intro i; first | exact Or.inl rfl | exact Or.inr (Or.inl rfl) | exact Or.inr (Or.inr rfl)) (hd : (x == ("__debug__" : Str)) = false := by decide) (hcd : (x == ("__classdict__" : Str)) = false := by decide)
   (hbase : ∀ i, attributeBase (.Name x px) "extend" (X i).env (eval (.Name x px) (X i).env) = eval (.Name x px) (X i).env := by intro i; rfl)
   (hfew : ∀ i, ((backTo cpos (starEach [b] (X i).env)).all (fun x => !x.1) && (backToKw cpos (keywordEach [] (X i).env)).all (fun x => x.1.isSome) && decide (([b] : List Expr).length + ([] : List Keyword).length + (if ([] : List Keyword).isEmpty then 0 else 1) < 30)) = true := by intro i; rfl)
   (hline : (apos.endLine == cpos.line) = true := by rfl) (hs : ∀ i, starEach [b] (X i).env = [(false, eval b (X i).env)] := by intro i; rfl) (hsw : ∀ i, swapsWith (.Call (.Attribute (.Name x px) "extend" apos) [b] [] cpos) none pos.line (X i).env = pure false := by intro i; rfl) :
   S3 K X O (.Expr (.Call (.Attribute (.Name x px) "extend" apos) [b] [] cpos) pos) (extS n fb) := let ⟨_, p2, d2⟩ := hb;
 ⟨tDrop (tBM K "list" rExtend (tVar n) (tCons _ tNil)), fun i => by
   have h := pe_bm (apos := apos) (cpos := cpos) PySem.F.plainAttrs_list PySem.F.slot_list_extend PySem.F.type_list_extend (mtr_extend (X := X i)) (pe_var (pos := px) (hN i) (hv i) hd hcd) (pa_cons (p2 i) pa_nil (hs i)) (hbase i) (hfew i) hline (hs i)
   rw [C.hK] at h
   exact ps_expr h (hsw i), fun j => sd_extend (d2 j)⟩
end
end L3
namespace L3
open PySem PySem.Spec
open PyProof.Rows hiding St
open L2
namespace RV
theorem nolen_rev : typeLookup (.type "list_reverseiterator") "__len__" = pure none := by rw [typeLookup_type, builtinLookup_eq_fast]; kernel_rfl
theorem hint_rev : typeLookup (.type "list_reverseiterator") "__length_hint__" = pure (some (.builtin "list_reverseiterator.__length_hint__")) := by rw [typeLookup_type, builtinLookup_eq_fast]; kernel_rfl
theorem sub_rev_self : isSubtype (.type "list_reverseiterator") (.type "list_reverseiterator") = pure true := by rw [isSubtype_type]; kernel_rfl
theorem split_hint : splitId "list_reverseiterator.__length_hint__" = some ("list_reverseiterator", "__length_hint__") := by decide +kernel
theorem hint_no {prog : Program} {w : World} {A : Around} {E : Value → Shared → Prop} {s : Shared} {it : Addr} {Q : Bool → Shared → Prop} (t : s.TypeIs (.ref it) "list_reverseiterator") (q : Q false s) : wpAny (model prog w) A (Builtin.List.listLengthHint (.ref it)) Q E s := by
 have sp := split_hint
 unfold Builtin.List.listLengthHint
 refine wpAny_bind (wpAny_specialOf t nolen_rev (wpAny_bind (wpAny_specialOf t hint_rev ?_)))
 revert sp
 generalize z : ("list_reverseiterator.__length_hint__" : String) = nm
 intro sp
 dsimp only
 rw [sp]
 subst z
 exact wpAny_bind (wpAny_isInstance (b := true) t sub_rev_self (wpAny_pure q))
theorem list_of_rev {prog : Program} {w : World} {A : Around} {E : Value → Shared → Prop} {s : Shared} {it l : Addr} {items : Array Value} {Q : Value → Shared → Prop} (hh : A.handled = none) (hr : s.heap.IsRevIter it l ((items.size : Int) - 1)) (hl : s.heap.IsList l items) (hne : l ≠ it) (hz : items.size ≤ sizeLine)
   (q : ∀ h' t' vs c, (∀ b o, b ≠ it → s.heap.get? b = some o → h'.get? b = some o) → h'.get? s.heap.objs.size = some { cls := .type "list", dict := none, data := .seq vs c, slots := #[] } → ItemsOf (fun i v => items[items.size - 1 - i]? = some v) vs items.size → Q (.ref s.heap.objs.size) { s with heap := h', toks := t' }) :
   wpAny (model prog w) A (call (.type "list") [.ref it]) Q E s := by
 have W := (Walks.listRev (prog := prog) (w := w) (A := A.in1.in1) hh it l hne items).toS
 have new : ∀ b o, s.heap.get? b = some o → b ≠ s.heap.objs.size := fun b o e z => by
   subst z
   rw [Heap.get?] at e
   simp at e
 refine callType_codes (Q₁ := fun v s1 => v = .ref s.heap.objs.size ∧ s1 = { s with heap := s.heap.push { cls := .type "list", data := .seq #[] } }) F.called_list (F.typeCall_list_1 _) F.entry_list_init (code_list_new _ ⟨rfl, rfl⟩) ?_
 rintro _ _ ⟨rfl, rfl⟩
 refine ⟨⟨_, Heap.get?_push_size _ rfl, rfl⟩, F.args_list_init_2 _ _, ?_⟩
 obtain ⟨o, ho, hc, hd⟩ := id hr
 have nI : s.heap.objs.size ≠ it := fun z => new it _ ho z.symm
 have same : Builtin.List.listSameRef (.ref s.heap.objs.size) (.ref it) = false := by simp [Builtin.List.listSameRef, nI]
 have t1 : Value.type "list_reverseiterator" ≠ Value.type "list" := by decide
 have eS : (s.heap.push { cls := .type "list", data := .seq #[] }).get? s.heap.objs.size = some { cls := .type "list", data := .seq #[] } := Heap.get?_push_size _ rfl
 have eI := Heap.get?_push_of_some { cls := .type "list", data := .seq (#[] : Array Value) } ho
 have a1 := nolen_rev
 have a2 := hint_rev
 have a3 := sub_rev_self
 obtain ⟨hp, g, dr, tk, os⟩ := s
 have eI2 : (((hp.push { cls := .type "list", data := .seq #[] }).update hp.objs.size (Obj.mapSeq fun _ => (#[] : Array Value))).get? it) = some o := by
   rw [Heap.get?_update_other _ _ nI]
   exact eI
 have eS2 := Heap.get?_update_self (Obj.mapSeq (fun _ => (#[] : Array Value))) eS rfl
 have hr2 : ((hp.push { cls := .type "list", data := .seq #[] }).update hp.objs.size (Obj.mapSeq fun _ => (#[] : Array Value))).IsRevIter it l ((items.size : Int) - 1) := ⟨o, eI2, hc, hd⟩
 have hT : Shared.TypeIs ⟨((hp.push { cls := .type "list", data := .seq #[] }).update hp.objs.size (Obj.mapSeq fun _ => (#[] : Array Value))), g, dr, tk, os⟩ (.ref it) "list_reverseiterator" := ⟨o, eI2, hc⟩
 unfold Builtin.«list.__init__»
 wp_walk using wpAny_pyIter_revIter hr2, wpAny_typeOf hT, hint_no hT
 have hl2 : ((hp.push { cls := .type "list", data := .seq #[] }).update hp.objs.size (Obj.mapSeq fun _ => (#[] : Array Value))).IsList l items := by
   obtain ⟨ol, h1, h2⟩ := hl
   refine ⟨ol, ?_, h2⟩
   rw [Heap.get?_update_other _ _ (fun z => new l _ h1 z.symm)]
   exact Heap.get?_push_of_some _ h1
 have hS : hp.objs.size ∉ [it, l] := fun z => by
   obtain ⟨ol, h1, _⟩ := hl
   rcases List.mem_cons.mp z with z | z
   · exact nI z
   · exact new l _ h1 (List.mem_singleton.mp z).symm
 refine ⟨plainId_quiet F.plain_extend_loop _, codeAny_extend_loopS W hz _ hS _ items.size 0 _ _ _ rfl (Nat.zero_le _) ⟨Nat.zero_le _, by simpa using hr2, hl2⟩ eS2 (ItemsOf.nil _) fun s' vs c m e is => ⟨rfl, ?_⟩⟩
 obtain ⟨hp', g', dr', tk', os'⟩ := s'
 obtain ⟨m1, m2, m3, m4, m5⟩ := m
 have m2 : g' = g := m2
 have m3 : dr' = dr := m3
 have m4 : os' = os := m4
 subst m2 m3 m4
 refine q hp' tk' vs c (fun b ob hb eb => m1 b ob (fun z => ?_) ?_) e is
 · rcases List.mem_cons.mp z with z | z
   · exact new b _ eb z
   · exact hb (List.mem_singleton.mp z)
 · show ((hp.push _).update _ _).get? b = _
   rw [Heap.get?_update_other _ _ (fun z => new b _ eb z.symm)]
   exact Heap.get?_push_of_some _ eb
theorem items_rev {its : List Value} {vs : Array Value} (h : ItemsOf (fun i v => its.toArray[its.toArray.size - 1 - i]? = some v) vs its.toArray.size) : vs = its.reverse.toArray := by
 obtain ⟨h1, h2⟩ := h
 apply Array.ext'
 apply List.ext_getElem?
 intro i
 by_cases hi : i < vs.size
 · have e : vs.toList[i]? = some vs[i] := by simp [hi]
   have e2 := h2 i vs[i] (by simp [hi])
   rw [e, ← e2]
   simp at h1 e2 ⊢
   rw [List.getElem?_reverse (by omega)]
 · rw [List.getElem?_eq_none (by simpa using hi)]
   symm
   apply List.getElem?_eq_none
   simp at h1 ⊢
   omega
end RV
def tLR (K : PySem.W.Frag) (te : TE) : TE := fun σ H Q => te σ H fun v H1 => ∃ a xs, v = .ref a ∧ SqL K H1 a xs ∧ ∀ p, H1 p = none → Q (.ref p) (upd H1 p (.lst xs.reverse))
theorem pe_listrev {X : Cx} {e : Expr} {te : TE} {p1 p2 p3 p4 : Pos} (calm : X.A.handled = none) (gl : Gl X "list") (ml : X.mg "list" = none) (gr : Gl X "reversed") (mr : X.mg "reversed" = none) (he : PE X e te)
   (s1 : starEach [.Call (.Name "reversed" p2) [e] [] p3] X.env = (false, eval (.Call (.Name "reversed" p2) [e] [] p3) X.env) :: starEach [] X.env := by rfl) (s2 : starEach [e] X.env = (false, eval e X.env) :: starEach [] X.env := by rfl) :
   PE X (.Call (.Name "list" p1) [.Call (.Name "reversed" p2) [e] [] p3] [] p4) (tLR X.K te) := by
 intro pins s σ H Q I h
 refine wpAny_Call_Name_kw (ld_blt I gl ml (u := .type "list") rfl ?_)
 refine PyProof.Rows.callWith_type1 ?_ s1
 rw [s1]
 show wpAny _ _ (spliced ((false, eval (.Call (.Name "reversed" p2) [e] [] p3) X.env) :: [])) _ _ s
 refine Calls.spliced_cons ?_
 refine wpAny_Call_Name_kw (ld_blt I gr mr (u := .type "reversed") rfl ?_)
 refine PyProof.Rows.callWith_type1 ?_ s2
 rw [s2]
 show wpAny _ _ (spliced ((false, eval e X.env) :: [])) _ _ s
 refine Calls.spliced_cons (thn (he pins s σ H _ I h) fun u s' ⟨y, H1, I1, r1, a, xs, ey, hq, q⟩ => ?_)
 subst ey
 cases r1
 refine Calls.spliced_nil ?_
 obtain ⟨its, rv, pl, hz⟩ := I1.list hq
 have hlen := rv.length
 have isl := pl.isList
 refine call_reversed_list isl ?_
 refine Calls.spliced_nil ?_
 have new : a ≠ s'.heap.objs.size := fun z => by
   obtain ⟨o, ho, _⟩ := isl
   exact Nat.lt_irrefl _ (z ▸ Heap.lt_size ho)
 have isl2 : (s'.heap.push (revObj a ((its.toArray.size : Int) - 1))).IsList a its.toArray := isl.push _
 refine RV.list_of_rev (s := { s' with heap := s'.heap.push (revObj a ((its.toArray.size : Int) - 1)) }) calm ⟨_, Heap.get?_push_size _ rfl, rfl, rfl⟩ isl2 new (by simp; omega) fun h' t' vs c kp e is => ?_
 have ez : (s'.heap.push (revObj a ((its.toArray.size : Int) - 1))).objs.size = s'.heap.objs.size + 1 := Heap.size_push ..
 have ev := RV.items_rev is
 subst ev
 have kp2 : ∀ b o, s'.heap.get? b = some o → h'.get? b = some o := fun b o eb => kp b o (fun z => Nat.lt_irrefl _ (z ▸ Heap.lt_size eb)) (Heap.get?_push_of_some _ eb)
 have fr : H1 (s'.heap.objs.size + 1) = none := I1.hok.fresh (Nat.le_succ _)
 dsimp only at e ⊢
 rw [ez] at e ⊢
 exact ⟨.ref (s'.heap.objs.size + 1), _, I1.laid (t' := t') kp2 (Nat.le_succ _) (show ObjOk X.prog X.w _ h' _ (.lst xs.reverse) from ⟨by rw [List.length_reverse]; exact hz, its.reverse, c, rv.reverse, e⟩), rfl, q _ fr⟩
end L3
namespace L3
open PySem PySem.Spec
open PyProof.Rows hiding St
open L2
abbrev kSeed : Key := .inr "seed"
abbrev kNum : Key := .inr "number"
abbrev kLeft : Key := .inr "left"
def dealKv (seed num : Int) (l : Addr) : List (Key × V) := [(kSeed, .int seed), (kNum, .int num), (kLeft, .ref l)]
def dealA (seed num : Int) (l : Addr) : HO := .dK (dealKv seed num l)
theorem val_seed (s n : Int) (l : Addr) : valV (dealKv s n l) kSeed = some (.int s) := by simp [valV, dealKv, List.find?_cons]
theorem val_num (s n : Int) (l : Addr) : valV (dealKv s n l) kNum = some (.int n) := by
 have h1 : ¬ (kSeed = kNum) := by decide +kernel
 simp [valV, dealKv, List.find?_cons, h1]
theorem val_left (s n : Int) (l : Addr) : valV (dealKv s n l) kLeft = some (.ref l) := by
 have h1 : ¬ (kSeed = kLeft) := by decide +kernel
 have h2 : ¬ (kNum = kLeft) := by decide +kernel
 simp [valV, dealKv, List.find?_cons, h1, h2]
theorem put_seed (s n s' : Int) (l : Addr) : putK (dealKv s n l) kSeed (.int s') = dealKv s' n l := by
 have h1 : ¬ (kNum = kSeed) := by decide +kernel
 have h2 : ¬ (kLeft = kSeed) := by decide +kernel
 simp [putK, dealKv, h1, h2]
theorem put_num (s n n' : Int) (l : Addr) : putK (dealKv s n l) kNum (.int n') = dealKv s n' l := by
 have h1 : ¬ (kSeed = kNum) := by decide +kernel
 have h2 : ¬ (kLeft = kNum) := by decide +kernel
 simp [putK, dealKv, h1, h2]
structure DealAt (H : Hp) (a l : Addr) (seed num : Int) (ns : List Int) : Prop where
 ne : a ≠ l
 ha : H a = some (dealA seed num l)
 hl : H l = some (.lst (ns.map V.int))
 s0 : 0 ≤ seed
 s1 : seed < 4294967296
 n0 : 0 ≤ num
 ns0 : ∀ n ∈ ns, 0 ≤ n
structure IsDeal (O : Ob) : Prop where
 ex : ∃ a l, O.v = .ref a ∧ O.M a ∧ O.M l ∧ (∀ H, O.P H → ∃ s n ns, DealAt H a l s n ns) ∧ ∀ H H' s n ns, O.P H → DealAt H' a l s n ns → (∀ b, O.M b → b ≠ a → b ≠ l → H' b = H b) → O.P H'
theorem IsDeal.plus {O : Ob} (h : IsDeal O) (D : Addr) (u : HO) (nm : ¬ O.M D) : IsDeal (O.plus D u) := by
 obtain ⟨a, l, hv, ma, ml, h1, h2⟩ := h.ex
 have da : D ≠ a := fun e => nm (e ▸ ma)
 have dl : D ≠ l := fun e => nm (e ▸ ml)
 refine ⟨a, l, hv, .inl ma, .inl ml, fun H p => h1 H p.1, fun H H' s n ns p q k => ⟨h2 H H' s n ns p.1 q fun b mb => k b (.inl mb), ?_⟩⟩
 rw [k D (.inr rfl) da dl]
 exact p.2
theorem upD {κ : Type} {O : κ → Ob} (h : ∀ j, IsDeal (O j)) : ∀ j, IsDeal (compO O j) := fun j => (h j.1.1).plus _ _ j.2
def dealOb (a l : Addr) : Ob := ⟨fun b => b = a ∨ b = l, fun H => ∃ s n ns, DealAt H a l s n ns, .ref a⟩
theorem dealOb_ok (a l : Addr) : (dealOb a l).Ok := by
 refine ⟨fun H H' e ⟨s, n, ns, p⟩ => ⟨s, n, ns, p.ne, (e a (.inl rfl)).trans p.ha, (e l (.inr rfl)).trans p.hl, p.s0, p.s1, p.n0, p.ns0⟩, fun H b o ⟨s, n, ns, p⟩ eb m => ?_, fun H b ⟨s, n, ns, p⟩ m => ?_⟩
 · rcases m with rfl | rfl
   · rw [p.ha] at eb; cases eb; exact ⟨fun _ z => (by cases z), fun _ _ z => (by cases z)⟩
   · rw [p.hl] at eb; cases eb; exact ⟨fun _ z => (by cases z), fun _ _ z => (by cases z)⟩
 · rcases m with rfl | rfl
   · exact ⟨_, p.ha⟩
   · exact ⟨_, p.hl⟩
theorem dealOb_is (a l : Addr) : IsDeal (dealOb a l) := ⟨a, l, rfl, .inl rfl, .inr rfl, fun _ p => p, fun _ _ s n ns _ q _ => ⟨s, n, ns, q⟩⟩
abbrev dAt (k : Str) : TE := tDGet (tVar 0) (tC (.str k))
def tDealW (K : PySem.W.Frag) : TS :=
 tWhile (tAnd (tTest (tOp rEq (dAt "number") (tC (.int 0)))) (tTest (tOp (rI0 fun i j => .bl (decide (j < i))) (tCB (lenR K) (tCons (dAt "left") tNil)) (tC (.int 0)))))
     (sDPut (tVar 0) (tC (.str "number")) (tBM0 K "list" rPop (dAt "left")))
theorem at_num {H : Hp} {a l : Addr} {s n : Int} {ns : List Int} {σ : St} {Q : VK} (p : DealAt H a l s n ns) (hσ : σ[0]? = some (some (.ref a))) (q : Q (.int n) H) : dAt "number" σ H Q :=
 ⟨_, hσ, a, _, rfl, .inl ⟨_, kNum, .inl p.ha, rfl, (val_num s n l).symm⟩, q⟩
theorem at_seed {H : Hp} {a l : Addr} {s n : Int} {ns : List Int} {σ : St} {Q : VK} (p : DealAt H a l s n ns) (hσ : σ[0]? = some (some (.ref a))) (q : Q (.int s) H) : dAt "seed" σ H Q :=
 ⟨_, hσ, a, _, rfl, .inl ⟨_, kSeed, .inl p.ha, rfl, (val_seed s n l).symm⟩, q⟩
theorem at_left {H : Hp} {a l : Addr} {s n : Int} {ns : List Int} {σ : St} {Q : VK} (p : DealAt H a l s n ns) (hσ : σ[0]? = some (some (.ref a))) (q : Q (.ref l) H) : dAt "left" σ H Q :=
 ⟨_, hσ, a, _, rfl, .inl ⟨_, kLeft, .inl p.ha, rfl, (val_left s n l).symm⟩, q⟩
theorem len_kv (s n : Int) (l : Addr) : (dealKv s n l).length < sizeLine := by rw [sizeLine_eq]; show 3 < 16777216; decide
theorem DealAt.setN {H : Hp} {a l : Addr} {s n : Int} {ns : List Int} (p : DealAt H a l s n ns) {n' : Int} (h : 0 ≤ n') : DealAt (upd H a (dealA s n' l)) a l s n' ns :=
 ⟨p.ne, upd_same, by rw [upd_ne (Ne.symm p.ne)]; exact p.hl, p.s0, p.s1, h, p.ns0⟩
theorem DealAt.setS {H : Hp} {a l : Addr} {s n : Int} {ns : List Int} (p : DealAt H a l s n ns) {s' : Int} (h : 0 ≤ s') (h2 : s' < 4294967296) : DealAt (upd H a (dealA s' n l)) a l s' n ns :=
 ⟨p.ne, upd_same, by rw [upd_ne (Ne.symm p.ne)]; exact p.hl, h, h2, p.n0, p.ns0⟩
theorem put_n {H : Hp} {a l : Addr} {s n : Int} {ns : List Int} (p : DealAt H a l s n ns) (n' : Int) : DPut H a (.str "number") (.int n') (upd H a (dealA s n' l)) :=
 .inl ⟨_, kNum, p.ha, rfl, len_kv s n l, by rw [put_num]; rfl⟩
theorem put_s {H : Hp} {a l : Addr} {s n : Int} {ns : List Int} (p : DealAt H a l s n ns) (s' : Int) : DPut H a (.str "seed") (.int s') (upd H a (dealA s' n l)) :=
 .inl ⟨_, kSeed, p.ha, rfl, len_kv s n l, by rw [put_seed]; rfl⟩
theorem deal_stp {O : Ob} {H H' : Hp} {a l : Addr} {s n s' n' : Int} {ns ns' : List Int} (ma : O.M a) (ml : O.M l) (h2 : ∀ H H' s n ns, O.P H → DealAt H' a l s n ns → (∀ b, O.M b → b ≠ a → b ≠ l → H' b = H b) → O.P H') (p : DealAt H a l s n ns) (p' : DealAt H' a l s' n' ns') (st : PotStp a l H H') : Stp O H H' := by
 refine ⟨fun b o e nm => ?_, fun pp => h2 H H' _ _ _ pp p' fun b _ h3 h4 => st.oth b h3 h4, fun b u hu e => ?_⟩
 · rw [st.oth b (fun z => nm (z ▸ ma)) fun z => nm (z ▸ ml)]; exact e
 · rw [st.oth b (fun z => ?_) fun z => ?_]
   · exact e
   · rw [z, p.ha] at e; cases e; obtain ⟨xs, e1 | ⟨o, e1⟩⟩ := hu <;> cases e1
   · rw [z, p.hl] at e; cases e; obtain ⟨xs, e1 | ⟨o, e1⟩⟩ := hu <;> cases e1
end L3
namespace L3
open PySem PySem.Spec
open PyProof.Rows hiding St
open L2
theorem upd2 (H : Hp) (a : Addr) (x y : HO) : upd (upd H a x) a y = upd H a y := by
 funext b
 by_cases e : b = a
 · subst e; rw [upd_same, upd_same]
 · rw [upd_ne e, upd_ne e, upd_ne e]
theorem tcomp_ints {K : PySem.W.Frag} {c : Addr} {ns : List Int} {σ : St} {H : Hp} {tf : TT} {te : TE} {G : Addr → Hp → Prop} (p : Int → Bool) (f : Int → Int) (hS : SqL K H c (ns.map V.int)) (hz : ns.length ≤ 63)
   (ht : ∀ n H' R, R (p n) H' → tf (some (.int n) :: σ) H' R) (he : ∀ n H' R, R (V.int (f n)) H' → te (some (.int n) :: σ) H' R)
   (q : ∀ D, H D = none → G D (upd H D (.lst (((ns.filter p).map f).map V.int)))) :
   ∀ D, H D = none → ∃ W : Nat → Nat → List V → Hp → Prop, (∃ m, W 0 m [] (upd H D (.lst []))) ∧ ∀ i m ys H', W i m ys H' → H' D = some (.lst ys) ∧ (((Itl K c).stop i H' ∧ G D H') ∨ ((Itl K c).go i H' ∧ ∀ x H'', (Itl K c).yld i H' x H'' → gName 0 x (List.replicate 1 none ++ σ) H'' fun σ2 H2 => tf σ2 H2 fun b H3 =>
     if b = true then te σ2 H3 fun y H4 => H4 D = some (.lst ys) ∧ ys.length < sizeLine ∧ ∃ m', m' < m ∧ W (i + 1) m' (ys ++ [y]) (upd H4 D (.lst (ys ++ [y]))) else ∃ m', m' < m ∧ W (i + 1) m' ys H3)) := by
 intro D hD
 have sz := sizeLine_eq
 refine ⟨fun i m ys H' => m = ns.length - i ∧ i ≤ ns.length ∧ ys = (((ns.take i).filter p).map f).map V.int ∧ H' = upd H D (.lst ys), ⟨_, rfl, Nat.zero_le _, rfl, rfl⟩, ?_⟩
 rintro i m ys H' ⟨rfl, hi, rfl, rfl⟩
 refine ⟨upd_same, ?_⟩
 have hS' := (L3.same_new hD (.lst ((((ns.take i).filter p).map f).map V.int))).seq hS
 by_cases lt : i < ns.length
 · right
   refine ⟨⟨_, .int ns[i], hS', by rw [List.getElem?_map, List.getElem?_eq_getElem lt]; rfl⟩, fun x H'' ⟨e, y⟩ => ?_⟩
   subst e
   have ex := y _ hS'
   rw [List.getElem?_map, List.getElem?_eq_getElem lt] at ex
   cases ex
   show tf (some (.int ns[i]) :: σ) _ _
   have et : (ns.take (i + 1)).filter p = (ns.take i).filter p ++ (if p ns[i] = true then [ns[i]] else []) := by
     rw [List.take_succ_eq_append_getElem lt, List.filter_append, List.filter_cons]
     rfl
   refine ht _ _ _ ?_
   by_cases cc : p ns[i] = true
   · rw [if_pos cc] at et ⊢
     have hlen : ((ns.take i).filter p).length ≤ ns.length := Nat.le_trans (List.length_filter_le _ _) (by rw [List.length_take]; omega)
     refine he _ _ _ ⟨upd_same, by rw [List.length_map, List.length_map]; omega, ns.length - (i + 1), by omega, rfl, lt, ?_, upd2 _ _ _ _⟩
     rw [et, List.map_append, List.map_append]
     rfl
   · rw [if_neg cc] at et ⊢
     rw [List.append_nil] at et
     exact ⟨ns.length - (i + 1), by omega, rfl, lt, by rw [et], rfl⟩
 · left
   have e : i = ns.length := by omega
   subst e
   refine ⟨⟨_, hS', by rw [List.length_map]; exact Nat.le_refl _⟩, ?_⟩
   rw [List.take_length]
   exact q D hD
abbrev rMax2 : List V → Hp → VK → Prop := fun xs H Q => ∃ i j, xs = [.int i, .int j] ∧ Q (.int (if j > i then j else i)) H
def spDeal (K : PySem.W.Frag) : Sp := fun vs H Q _ => ∃ (a : Addr) (ns : List Int), vs = [.ref a, .int 0] ∧ SqL K H a (ns.map V.int) ∧ ns.length ≤ 63 ∧ ∀ p l s left H', H p = none → H l = none → Same H H' → DealAt H' p l s 0 left → Q (.ref p) H'
end L3
namespace L3
open PySem PySem.Spec
open PyProof.Rows hiding St
open L2
structure DC where
 (cb cc ce m2 m3 m4 : Int)
structure DC.Ok (c : DC) : Prop where
 (cc : -(2 ^ 64) < c.cc ∧ c.cc < 2 ^ 64) 
 (m2 : 0 < c.m2 ∧ c.m2 < 4294967296)
 (m3 : 0 < c.m3 ∧ c.m3 < 4294967296)
 (m4 : 0 < c.m4 ∧ c.m4 < 4294967296)
def tDealRG (K : PySem.W.Frag) (c : DC) : TS :=
 tSeq (tAsg (dAt "number") (gName 2))
 (tSeq (tIfS (tTest (tOp (rI0 fun i j => .bl (decide (j < i))) (tVar 2) (tC (.int 0))))
     (tSeq (sDPut (tVar 0) (tC (.str "number")) (tOp (rI CDiv fun i j => .int (i / j)) (tVar 2) (tVar 1))) (tRet (tOp (rI (fun _ j => 0 < j) fun i j => .int (i % j)) (tVar 2) (tVar 1)))) tNext)
 (tSeq (tAsg (tOp (rI (fun _ j => 0 < j) fun i j => .int (i % j)) (tOp (rI0 fun i j => .int (i + j)) (tOp (rI CMul fun i j => .int (i * j)) (dAt "seed") (tC (.int 48271))) (tC (.int c.cb))) (tC (.int 2147483647))) (gName 3))
 (tSeq (sDPut (tVar 0) (tC (.str "seed")) (tOp (rI (fun _ j => 0 < j) fun i j => .int (i % j)) (tOp (rI0 fun i j => .int (i + j)) (tOp (rI CMul fun i j => .int (i * j)) (tVar 3) (tC (.int c.cc))) (tC (.int c.ce))) (tC (.int c.m2))))
 (tSeq (tAsg (tOp (rI (fun _ j => 0 < j) fun i j => .int (i % j)) (tOp (rI CMul fun i j => .int (i * j)) (dAt "seed") (dAt "seed")) (tC (.int c.m3))) (gName 4))
 (tRet (tOp (rI (fun _ j => 0 < j) fun i j => .int (i % j)) (tOp (rI0 fun i j => .int (i + j)) (tOp (rI CMul fun i j => .int (i * j)) (tOp (rI (fun _ j => 0 < j) fun i j => .int (i % j)) (tOp (rI CMul fun i j => .int (i * j)) (tVar 3) (tVar 3)) (tC (.int c.m4))) (tC (.int c.m3))) (tVar 4)) (tVar 1)))))))
def tDealDG (K : PySem.W.Frag) (c : DC) : TS := tSeq (tDealW K) (tDealRG K c)
theorem dealRG_ok {K : PySem.W.Frag} {c : DC} (hc : c.Ok) {H : Hp} {a l : Addr} {s n : Int} {ns : List Int} {m : Int} {D : Ends} (p : DealAt H a l s n ns) (m0 : 0 < m) (m1 : m < 1073741824)
   (q : ∀ k H' s' n' ns', 0 ≤ k → k < m → DealAt H' a l s' n' ns' → PotStp a l H H' → D.rt (.int k) H') : tDealRG K c D [some (.ref a), some (.int m), none, none, none] H := by
 refine at_num p rfl ?_
 refine ⟨_, rfl, n, 0, rfl, rfl, _, rfl, ?_⟩
 refine ite2 (fun _ => ?_) (fun _ => ?_)
 · refine ⟨_, rfl, _, rfl, n, m, rfl, rfl, ⟨m0, m1⟩, ?_⟩
   refine ⟨_, rfl, a, _, rfl, put_n p _, ?_⟩
   exact ⟨_, rfl, _, rfl, n, m, rfl, rfl, m0, q _ _ s _ ns (Int.emod_nonneg _ (by omega)) (Int.emod_lt_of_pos _ m0) (p.setN (Int.ediv_nonneg p.n0 (by omega))) (.upA _)⟩
 · have s0 := p.s0
   have s1 := p.s1
   refine at_seed p rfl ?_
   refine ⟨s, 48271, rfl, rfl, .inl ⟨by omega, by omega⟩, ?_⟩
   refine ⟨_, _, rfl, rfl, _, _, rfl, rfl, (show (0 : Int) < 2147483647 by decide), ?_⟩
   dsimp only
   have e0 : 0 ≤ (s * 48271 + c.cb) % 2147483647 := Int.emod_nonneg _ (by decide)
   have e1 : (s * 48271 + c.cb) % 2147483647 < 2147483647 := Int.emod_lt_of_pos _ (by decide)
   generalize (s * 48271 + c.cb) % 2147483647 = one at e0 e1
   have hm2 := hc.m2
   have hm3 := hc.m3
   have hm4 := hc.m4
   refine ⟨_, rfl, one, c.cc, rfl, rfl, .inl ⟨by omega, by omega⟩, ?_⟩
   refine ⟨_, _, rfl, rfl, _, _, rfl, rfl, hm2.1, ?_⟩
   dsimp only
   have f0 : 0 ≤ (one * c.cc + c.ce) % c.m2 := Int.emod_nonneg _ (by omega)
   have f1 : (one * c.cc + c.ce) % c.m2 < c.m2 := Int.emod_lt_of_pos _ hm2.1
   generalize (one * c.cc + c.ce) % c.m2 = sd at f0 f1
   refine ⟨_, rfl, a, _, rfl, put_s p _, ?_⟩
   have p2 := p.setS (s' := sd) (by omega) (by omega)
   refine at_seed p2 rfl (at_seed p2 rfl ?_)
   refine ⟨sd, sd, rfl, rfl, .inl ⟨by omega, by omega⟩, _, _, rfl, rfl, hm3.1, ?_⟩
   have g0 : 0 ≤ one * one % c.m4 := Int.emod_nonneg _ (by omega)
   have g1 : one * one % c.m4 < c.m4 := Int.emod_lt_of_pos _ hm4.1
   refine ⟨_, rfl, _, rfl, one, one, rfl, rfl, .inl ⟨by omega, by omega⟩, ?_⟩
   refine ⟨_, _, rfl, rfl, hm4.1, _, _, rfl, rfl, .inl ⟨by omega, by omega⟩, ?_⟩
   refine ⟨_, rfl, _, _, rfl, rfl, _, rfl, _, _, rfl, rfl, m0, ?_⟩
   exact q _ _ _ _ _ (Int.emod_nonneg _ (by omega)) (Int.emod_lt_of_pos _ m0) p2 (.upA _)
theorem dealG_ok {K : PySem.W.Frag} {dc : DC} (hc : dc.Ok) {H : Hp} {a l : Addr} {s n : Int} {ns : List Int} {m : Int} {D : Ends} (p : DealAt H a l s n ns) (m0 : 0 < m) (m1 : m < 1073741824)
   (q : ∀ k H' s' n' ns', 0 ≤ k → k < m → DealAt H' a l s' n' ns' → PotStp a l H H' → D.rt (.int k) H') : tDealDG K dc D [some (.ref a), some (.int m), none, none, none] H := by
 refine ⟨fun c σ H' => σ = [some (.ref a), some (.int m), none, none, none] ∧ ∃ s n ns, c = ns.length ∧ DealAt H' a l s n ns ∧ PotStp a l H H', ⟨_, rfl, s, n, ns, rfl, p, .refl _ _ _⟩, ?_⟩
 rintro c σ H1 ⟨rfl, s, n, ns, rfl, p, st⟩
 have out : tDealRG K dc D [some (.ref a), some (.int m), none, none, none] H1 := dealRG_ok hc p m0 m1 fun k H' s' n' ns' h1 h2 h3 h4 => q k H' s' n' ns' h1 h2 h3 (st.trans h4)
 refine at_num p rfl ?_
 refine ⟨rfl, _, rfl, ?_⟩
 refine ite2 (fun c => ?_) (fun c => iteF out)
 refine at_left p rfl ?_
 refine ⟨_, _, rfl, .inl ⟨_, .of p.hl, rfl⟩, _, _, rfl, rfl, _, rfl, ?_⟩
 refine ite2 (fun c2 => ?_) (fun c2 => out)
 have c3 := of_decide_eq_true c2
 have hne : ns ≠ [] := fun e => by rw [e] at c3; simp at c3
 obtain ⟨r, x, rfl⟩ : ∃ r x, ns = r ++ [x] := ⟨ns.dropLast, ns.getLast hne, (List.dropLast_concat_getLast hne).symm⟩
 refine ⟨fun σ' H' => σ' = [some (.ref a), some (.int m), none, none, none] ∧ ∃ s n ns, ns.length < (r ++ [x]).length ∧ DealAt H' a l s n ns ∧ PotStp a l H H', fun σ' H' ⟨e, s, n, ns, hl, h1, h2⟩ => ⟨_, hl, e, s, n, ns, rfl, h1, h2⟩, ?_⟩
 refine at_left p rfl ?_
 have p1 : DealAt (upd H1 l (.lst ((r ++ [x]).map V.int).dropLast)) a l s n r := ⟨p.ne, by rw [upd_ne p.ne]; exact p.ha, by rw [upd_same, List.map_append]; show some (HO.lst (List.dropLast (_ ++ [V.int x]))) = _; rw [List.dropLast_concat], p.s0, p.s1, p.n0, fun z hz => p.ns0 z (List.mem_append_left _ hz)⟩
 refine ⟨.inl ⟨rfl, _, .of p.hl⟩, l, _, .int x, rfl, rfl, p.hl, by simp, ?_⟩
 refine ⟨_, rfl, a, _, rfl, put_n p1 x, rfl, s, x, r, by simp, p1.setN (p.ns0 x (by simp)), st.trans (PotStp.trans (.upL _) (.upA _))⟩
theorem dealDG_body {K : PySem.W.Frag} {c : DC} (hc : c.Ok) {O : Ob} {H : Hp} {ds : List PyData} {ws : List V} {Qr : R → Prop} {Q : VK} {x1 x2 x3 x4 x5 : Str} (hφ : IsDeal O) (p : O.P H) (is : IsAll K (unM O) H ws ds) (q : drawF ds Qr) (kk : ∀ r, Qr r → ∀ v H', Stp O H H' → Out K O H H' v r → Q v H') :
   tDealDG K c { nx := fun _ H' => Q .non H', rt := Q } (L2.start [x1, x2, x3, x4, x5] (O.v :: ws)) H := by
 obtain ⟨m, rfl, m0, m1, q⟩ := q
 obtain ⟨a, l, hv, ma, ml, h1, h2⟩ := hφ.ex
 obtain ⟨s, n, ns, pa⟩ := h1 H p
 obtain ⟨v, rfl, iv⟩ := isAll_one is
 cases iv
 rw [hv]
 exact dealG_ok hc pa m0 m1 fun k H' s' n' ns' k0 k1 p' st => kk _ (q k k0 k1) _ H' (deal_stp ma ml h2 pa p' st) (Is.int k)
def tMakeG (K : PySem.W.Frag) (ti ts : TE) : TS :=
 tSeq (tAsg (tComp 1 (iList K (tSl (rSlL K) (tVar 0) (tPart (tVar 1)) (tPart (tC (.int 63))))) (gName 0) tYes (tCB rMax2 (tCons (tVar 0) (tCons (tOp (rI0 fun i j => .int (i - j)) (tC (.int 0)) (tVar 0)) tNil)))) (gName 2))
 (tSeq (tAsg ti (gName 3))
 (tSeq (tFor (iList K (tVar 2)) (gName 4)
   (tAsg ts (gName 3)))
 (tRet (tDisp [(tC (.str "seed"), tVar 3), (tC (.str "number"), tC (.int 0)), (tC (.str "left"), tLR K (tComp 1 (iList K (tVar 2)) (gName 0) (tTest (tOp (rI0 fun i j => .bl (decide (j ≤ i))) (tVar 0) (tOp (rI CPow fun i j => .int (i ^ j.toNat)) (tC (.int 10)) (tC (.int 18))))) (tVar 0)))]))))
theorem makeG_body {K : PySem.W.Frag} {ti ts : TE} {s0 : Int} (hs0 : 0 ≤ s0) (hs1 : s0 < 4294967296) (hi : ∀ (v v1 : V) H Q, Q (.int s0) H → ti [some v, some (.int 0), some v1, none, none] H Q) (hst : ∀ (v v1 : V) (s n : Int) H Q, 0 ≤ s → s < 4294967296 → (∀ s', 0 ≤ s' → s' < 4294967296 → Q (.int s') H) → ts [some v, some (.int 0), some v1, some (.int s), some (.int n)] H Q) {H : Hp} {Q : VK} {a : Addr} {ns : List Int} (hS : SqL K H a (ns.map V.int)) (hl : ns.length ≤ 63)
   (q : ∀ p l s left H', H p = none → H l = none → Same H H' → DealAt H' p l s 0 left → Q (.ref p) H') : tMakeG K ti ts { nx := fun _ H' => Q .non H', rt := Q } [some (.ref a), some (.int 0), none, none, none] H := by
 have sL := sizeLine_eq
 refine ⟨_, rfl, _, rfl, _, rfl, 63, rfl, a, _, rfl, hS, fun c hc => ?_⟩
 rw [cutV_map]
 have hcl : (cutL ns (some 0) (some 63)).length ≤ 63 := by
   unfold cutL
   rw [List.length_take, List.length_drop]
   omega
 generalize cutL ns (some 0) (some 63) = cs at hcl
 refine ⟨c, rfl, ⟨_, .of upd_same⟩, ?_⟩
 have g1 : Same H (upd H c (.lst (cs.map V.int))) := L3.same_new hc _
 refine tcomp_ints (K := K) (c := c) (H := upd H c (.lst (cs.map V.int))) (σ := [some (.ref a), some (.int 0), none, none, none]) (tf := tYes) (te := tCB rMax2 (tCons (tVar 0) (tCons (tOp (rI0 fun i j => .int (i - j)) (tC (.int 0)) (tVar 0)) tNil))) (fun _ => true) (fun n => if 0 - n > n then 0 - n else n) (.of upd_same) hcl (fun n H' R r => r) (fun n H' R r => ⟨_, rfl, _, rfl, 0, n, rfl, rfl, n, 0 - n, rfl, r⟩) fun d hd => ?_
 have hcs : cs.filter (fun _ => true) = cs := List.filter_eq_self.mpr fun _ _ => rfl
 rw [hcs]
 have habs : ∀ n ∈ cs.map (fun n => if 0 - n > n then 0 - n else n), 0 ≤ n := fun n hn => by
   obtain ⟨m, _, rfl⟩ := List.mem_map.mp hn
   split <;> omega
 have hal : (cs.map (fun n => if 0 - n > n then 0 - n else n)).length ≤ 63 := by rw [List.length_map]; exact hcl
 generalize cs.map (fun n => if 0 - n > n then 0 - n else n) = es at habs hal
 have g2 : Same H (upd (upd H c (.lst (cs.map V.int))) d (.lst (es.map V.int))) := g1.trans (L3.same_new hd _)
 generalize eH : upd (upd H c (.lst (cs.map V.int))) d (.lst (es.map V.int)) = H1 at g2
 have hd1 : H1 d = some (.lst (es.map V.int)) := by rw [← eH]; exact upd_same
 refine hi _ _ _ _ ?_
 refine ⟨_, rfl, d, rfl, ⟨_, .of hd1⟩, ?_⟩
 refine for_list (xs := es.map V.int) (fun i σ H' => ∃ (s : Int) (o : Option V), σ = [some (.ref a), some (.int 0), some (.ref d), some (.int s), o] ∧ 0 ≤ s ∧ s < 4294967296 ∧ H' = H1) ?_ ?_ ?_ ?_
 · exact ⟨_, none, rfl, hs0, hs1, rfl⟩
 · rintro i σ H' hi ⟨s, o, rfl, h1, h2, rfl⟩
   exact .of hd1
 · rintro i x σ H' hx ⟨s, o, rfl, h1, h2, rfl⟩
   rw [List.getElem?_map] at hx
   obtain ⟨n, hn, rfl⟩ := Option.map_eq_some_iff.mp hx
   exact hst _ _ s n _ _ h1 h2 fun s' f0 f1 => ⟨_, _, rfl, f0, f1, rfl⟩
 · rintro σ H' ⟨s, o, rfl, h1, h2, rfl⟩
   intro p hp
   have npd : p ≠ d := fun z => by rw [z, hd1] at hp; cases hp
   refine ⟨_, rfl, ?_⟩
   have hd2 : upd H' p (.dK []) d = some (.lst (es.map V.int)) := by rw [upd_ne (Ne.symm npd)]; exact hd1
   refine ⟨_, rfl, d, rfl, ⟨_, .of hd2⟩, ?_⟩
   refine tcomp_ints (tf := tTest (tOp (rI0 fun i j => .bl (decide (j ≤ i))) (tVar 0) (tOp (rI CPow fun i j => .int (i ^ j.toNat)) (tC (.int 10)) (tC (.int 18))))) (te := tVar 0) (fun n => decide ((10 : Int) ^ (18 : Int).toNat ≤ n)) (fun n => n) (.of hd2) hal (fun n H' R r => ⟨_, rfl, 10, 18, rfl, rfl, ⟨by decide, by decide, by decide⟩, _, _, rfl, rfl, _, rfl, r⟩) (fun n H' R r => ⟨_, rfl, r⟩) fun e he => ?_
   rw [List.map_id']
   have hfl : ∀ n ∈ es.filter (fun n => decide ((10 : Int) ^ (18 : Int).toNat ≤ n)), 0 ≤ n := fun n hn => habs n (List.mem_filter.mp hn).1
   generalize es.filter (fun n => decide ((10 : Int) ^ (18 : Int).toNat ≤ n)) = left at hfl
   have npe : p ≠ e := fun z => by rw [← z, upd_same] at he; cases he
   refine ⟨e, _, rfl, .of upd_same, fun l hln => ?_⟩
   have npl : p ≠ l := fun z => by
     rw [← z, upd_ne npe, upd_same] at hln
     cases hln
   have nel : e ≠ l := fun z => by rw [← z, upd_same] at hln; cases hln
   have hlp : upd H' p (.dK []) l = none := by rw [upd_ne (Ne.symm nel)] at hln; exact hln
   have hlH : H' l = none := by rw [upd_ne (Ne.symm npl)] at hlp; exact hlp
   refine ⟨by rw [upd_ne npl, upd_ne npe]; exact upd_same, dealKv s 0 l, rfl, by show 3 ≤ 15; decide, ?_⟩
   have em : mergeK [] (dealKv s 0 l) = dealKv s 0 l := by
     have a1 : ¬ (kSeed = kNum) := by decide +kernel
     have a2 : ¬ (kSeed = kLeft) := by decide +kernel
     have a3 : ¬ (kNum = kLeft) := by decide +kernel
     simp [mergeK, dealKv, putK, a1, a2, a3]
   rw [em]
   have heH : H' e = none := by rw [upd_ne (Ne.symm npe)] at he; exact he
   have hm : (left.map V.int).reverse = left.reverse.map V.int := List.map_reverse.symm
   rw [hm]
   refine q p l s left.reverse _ (g2.free hp) (g2.free hlH) (fun b o eb => ?_) ⟨npl, upd_same, ?_, h1, h2, Int.le_refl 0, fun n hn => hfl n (List.mem_reverse.mp hn)⟩
   · have e1 := g2 b o eb
     have n1 : b ≠ p := fun z => by rw [z, hp] at e1; cases e1
     have n2 : b ≠ l := fun z => by rw [z, hlH] at e1; cases e1
     have n3 : b ≠ e := fun z => by rw [z, heH] at e1; cases e1
     rw [upd_ne n1, upd_ne n2, upd_ne n3, upd_ne n1]
     exact e1
   · rw [upd_ne (Ne.symm npl)]
     exact upd_same
end L3
namespace L3
open PySem PySem.Spec
open PyProof.Rows hiding St
open L2
def letters2F : List PyData → (R → Prop) → Prop := fun ds Q => ds = [] ∧ ∀ w : List Nat, 1 ≤ w.length → w.length ≤ 3 → (∀ c ∈ w, isLow c) → w.Pairwise (· < ·) → Q (.n (w.map fun c => .str (sg c)))
def tLetters2 (K : PySem.W.Frag) (drawSp : Sp) : TS :=
 tSeq (tAsg (tCB rListS (tCons (tC (.str "abcdefghijklmnopqrstuvwxyz")) tNil)) (gName 1))
 (tRet (tCB rSortS (tCons (tComp 1 (iRng1 (tCons (tOp (rI0 fun i j => .int (i + j)) (tC (.int 1)) (tCall drawSp [] E0 (tCons (tVar 0) (tCons (tC (.int 3)) tNil)))) tNil)) (gName 0) tYes (tBM K "list" rPopAt (tVar 2) (tCons (tCall drawSp [] E0 (tCons (tVar 1) (tCons (tCB (lenR K) (tCons (tVar 2) tNil)) tNil))) tNil))) tNil)))
theorem letters2_body {K : PySem.W.Frag} {φ : Ob → Prop} (hp : ∀ (O : Ob) (D : Addr) (u : HO), φ O → ¬ O.M D → φ (O.plus D u)) {O : Ob} {H : Hp} {ds : List PyData} {ws : List V} {Qr : R → Prop} {Q : VK} {x1 x2 : Str} (ok : O.Ok) (hφ : φ O) (p : O.P H) (is : IsAll K (unM O) H ws ds) (q : letters2F ds Qr) (kk : ∀ r, Qr r → ∀ v H', Stp O H H' → Out K O H H' v r → Q v H') :
   tLetters2 K (spD K φ 1 drawF) { nx := fun _ H' => Q .non H', rt := Q } (L2.start [x1, x2] (O.v :: ws)) H := by
 obtain ⟨rfl, q⟩ := q
 cases is
 have hsz : sizeLine = 16777216 := sizeLine_eq
 refine ⟨_, rfl, by decide, fun l hl => ?_⟩
 have eabc : (Str.ofString "abcdefghijklmnopqrstuvwxyz").cps.toList = abc := by decide +kernel
 rw [eabc]
 have sl : Stp O H (upd H l (.lst (abc.map fun c => V.str (sg c)))) := .new ok hl _
 have nMl : ¬ O.M l := fun mm => by obtain ⟨o, z⟩ := ok.here H l p mm; rw [hl] at z; cases z
 have al : ∀ b o, H b = some o → b ≠ l := fun b o e z => by rw [z, hl] at e; cases e
 have okl := ok.plus l (abc.map fun c => V.str (sg c))
 have hpl : φ (O.plus l (.lst (abc.map fun c => V.str (sg c)))) := hp _ l _ hφ nMl
 have pl0 : (O.plus l (.lst (abc.map fun c => V.str (sg c)))).P (upd H l (.lst (abc.map fun c => V.str (sg c)))) := ⟨sl.p p, upd_same⟩
 refine ⟨_, rfl, ?_⟩
 show spD K φ 1 drawF ([O.v, V.int 3] ++ []) _ _ E0
 refine ⟨_, [.int 3], [.int 3], fun x => ∃ k : Int, x = .o (.int k) ∧ 0 ≤ k ∧ k < 3, okl, hpl, pl0, rfl, rfl, .cons (.int _) .nil, ⟨_, rfl, by omega, by omega, fun k k0 k1 => ⟨k, rfl, k0, k1⟩⟩, ?_⟩
 rintro _ ⟨k, rfl, k0, k1⟩ v H0 st0 o0
 cases o0
 obtain ⟨p0, hl0⟩ := st0.p pl0
 refine ⟨_, _, rfl, rfl, ?_⟩
 obtain ⟨m, em⟩ : ∃ m : Int, m = 1 + k := ⟨_, rfl⟩
 refine ⟨m, by rw [em], by omega, by omega, fun D hD => ?_⟩
 have kp0 : ∀ b o, H b = some o → ¬ O.M b → H0 b = some o := fun b o e n => st0.s b o (by rw [upd_ne (al b o e)]; exact e) fun mm => by
   rcases mm with mm | mm
   · exact n mm
   · exact al b o e mm
 have ts0 : TupStay H H0 := fun b u hu e => st0.t b u hu (by rw [upd_ne (al b u e)]; exact e)
 have nlD : l ≠ D := fun z => by rw [← z, hl0] at hD; cases hD
 have nMD : ¬ O.M D := fun mm => by obtain ⟨o, z⟩ := ok.here H0 D p0 mm; rw [hD] at z; cases z
 have hDH : H D = none := by
   cases e : H D with
   | none => rfl
   | some o => have := kp0 D o e nMD; rw [hD] at this; cases this
 have aD : ∀ b o, H b = some o → b ≠ D := fun b o e z => by rw [z, hDH] at e; cases e
 have pl : ∀ {H' : Hp} {b : Addr} {o : HO}, ¬ O.M b → O.P H' → O.P (upd H' b o) := fun {H' b o} nb pp => ok.loc H' _ (fun c mc => upd_ne fun z => nb (z ▸ mc)) pp
 refine ⟨fun i c ys H' => c = m.toNat - i ∧ i ≤ m.toNat ∧ H' D = some (.lst ys) ∧ (∃ w r : List Nat, ys = w.map (fun c => V.str (sg c)) ∧ w.length = i ∧ (∀ c ∈ w, isLow c) ∧ H' l = some (.lst (r.map fun c => V.str (sg c))) ∧ r.length + i = 26 ∧ (∀ c ∈ r, isLow c) ∧ (w ++ r).Nodup) ∧
     O.P H' ∧ (∀ b o, H b = some o → ¬ O.M b → H' b = some o) ∧ TupStay H H', ⟨_, rfl, Nat.zero_le _, upd_same, ⟨[], abc, rfl, rfl, by simp, by rw [upd_ne nlD]; exact hl0, rfl, by unfold isLow; decide, by decide⟩, pl nMD p0, fun b o e n => ?_, fun b u _ e => ?_⟩, ?_⟩
 · rw [upd_ne (aD b o e)]; exact kp0 b o e n
 · rw [upd_ne (aD b u e)]; exact ts0 b u ‹_› e
 rintro i c ys H' ⟨rfl, hi, hDy, ⟨w, r, rfl, hw, hwl, hr, hrl, hrc, hnd⟩, pp, kp, ts⟩
 refine ⟨hDy, ?_⟩
 by_cases hlt : i < m.toNat
 · right
   refine ⟨hlt, fun x H2 ⟨e2, _⟩ => ?_⟩
   subst e2
   have hr0 : 0 < r.length := by omega
   show tBM K "list" rPopAt (tVar 2) _ _ H2 _
   refine ⟨_, rfl, .inl ⟨rfl, _, .of hr⟩, _, rfl, ?_⟩
   refine ⟨_, rfl, _, r.length, rfl, .inl ⟨_, .of hr, by rw [List.length_map]⟩, ?_⟩
   have okp := (ok.plus D (w.map fun c => V.str (sg c))).plus l (r.map fun c => V.str (sg c))
   have nl2 : ¬ (O.plus D (.lst (w.map fun c => V.str (sg c)))).M l := fun mm => by
     rcases mm with mm | mm
     · exact nMl mm
     · exact nlD mm
   show spD K φ 1 drawF ([O.v, V.int r.length] ++ []) H2 _ E0
   refine ⟨_, [.int r.length], [.int r.length], fun x => ∃ k : Int, x = .o (.int k) ∧ 0 ≤ k ∧ k < r.length, okp, hp _ l _ (hp _ D _ hφ nMD) nl2, ⟨⟨pp, hDy⟩, hr⟩, rfl, rfl, .cons (.int _) .nil, ⟨_, rfl, by omega, by omega, fun k k0 k1 => ⟨k, rfl, k0, k1⟩⟩, ?_⟩
   rintro _ ⟨k, rfl, k0, k1⟩ v H3 st o3
   cases o3
   obtain ⟨⟨p3, hD3⟩, hl3⟩ := st.p ⟨⟨pp, hDy⟩, hr⟩
   have hk : k.toNat < r.length := by omega
   have ek : k = ((k.toNat : Nat) : Int) := by omega
   refine ⟨l, _, k, k.toNat, V.str (sg r[k.toNat]), rfl, rfl, hl3, by omega, by omega, ?_, by rw [List.getElem?_map, List.getElem?_eq_getElem hk]; rfl, ?_⟩
   · rw [List.length_map]
     unfold seqIndex?
     simp only [show ¬ k < 0 by omega, if_false]
     first | (rw [if_pos (by omega)]) | (simp; omega) | omega
   · have ne1 : D ≠ l := Ne.symm nlD
     refine ⟨by rw [upd_ne ne1]; exact hD3, by rw [List.length_map]; omega, m.toNat - (i + 1), by omega, rfl, hlt, upd_same, ⟨w ++ [r[k.toNat]], r.eraseIdx k.toNat, by rw [List.map_append]; rfl, by rw [List.length_append, hw]; rfl, fun c hc => ?_, ?_, ?_, fun c hc => hrc c (eraseIdx_mem hc), ?_⟩, pl nMD (pl nMl p3), fun b o e n => ?_, fun b u hu e => ?_⟩
     · rcases List.mem_append.mp hc with hc | hc
       · exact hwl c hc
       · rw [List.mem_singleton.mp hc]; exact hrc _ (List.getElem_mem hk)
     · rw [upd_ne nlD, upd_same, erase_map]
     · rw [List.length_eraseIdx]
       rw [if_pos hk]
       omega
     · rw [List.append_assoc]
       refine (List.Perm.nodup_iff (List.Perm.append_left w ?_)).mp hnd
       exact (perm_pick hk).symm
     · rw [upd_ne (aD b o e), upd_ne (al b o e)]
       exact st.s b o (kp b o e n) fun mm => by
         rcases mm with (mm | mm) | mm
         · exact n mm
         · exact aD b o e mm
         · exact al b o e mm
     · rw [upd_ne (aD b u e), upd_ne (al b u e)]
       exact st.t b u hu (ts b u hu e)
 · left
   have e : i = m.toNat := by omega
   refine ⟨by show m.toNat ≤ i; omega, ?_⟩
   refine ⟨D, w.map sg, rfl, by rw [hDy, List.map_map]; rfl, by rw [List.length_map]; omega, fun zs z hpm hs hz => ?_⟩
   obtain ⟨w2, rfl, hw2⟩ := unsg (zs := zs) fun y hy => by
     obtain ⟨c, hc, rfl⟩ := List.mem_map.mp (hpm.mem_iff.mp hy)
     exact ⟨c, rfl, hwl c hc⟩
   have hlen : w2.length = w.length := by have := hpm.length_eq; simpa using this
   have hinc : w2.Pairwise (· < ·) := by
     refine sorted_inc hs ?_
     have hw1 : (w.map sg).Nodup := List.pairwise_map.mpr ((List.nodup_append.mp hnd).1.imp fun ne e => ne (sg_inj e))
     have hw3 : (w2.map sg).Nodup := hpm.symm.nodup_iff.mp hw1
     exact (List.pairwise_map.mp hw3).imp fun ne e => ne (congrArg sg e)
   have az : ∀ b o, H b = some o → ¬ O.M b → b ≠ z := fun b o eb n e2 => by rw [e2] at eb; have := kp z o eb (e2 ▸ n); rw [hz] at this; cases this
   have nMz : ¬ O.M z := fun mm => by obtain ⟨o, y⟩ := ok.here H' z pp mm; rw [hz] at y; cases y
   have hzH : H z = none := by
     cases e : H z with
     | none => rfl
     | some o => have := kp z o e nMz; rw [hz] at this; cases this
   refine kk _ (q w2 (by omega) (by omega) hw2 hinc) _ _ ⟨fun b o eb n => by rw [upd_ne (az b o eb n)]; exact kp b o eb n, fun _ => pl nMz pp, fun b u hu eb => ?_⟩ ⟨z, _, rfl, hzH, upd_same, ?_⟩
   · have h1 := ts b u hu eb
     rw [upd_ne fun e2 => by rw [e2, hz] at h1; cases h1]
     exact h1
   · have := strs_isAll (K := K) (F := unM O) (H := upd H' z (.lst ((w2.map sg).map V.str))) (w2.map sg)
     rw [List.map_map (g := PyData.str)] at this
     exact this
theorem letters2_deal {K : PySem.W.Frag} {O : Ob} {H : Hp} {ds : List PyData} {ws : List V} {Qr : R → Prop} {Q : VK} {x1 x2 : Str} (ok : O.Ok) (hφ : IsDeal O) (p : O.P H) (is : IsAll K (unM O) H ws ds) (q : letters2F ds Qr) (kk : ∀ r, Qr r → ∀ v H', Stp O H H' → Out K O H H' v r → Q v H') :
   tLetters2 K (spD K IsDeal 1 drawF) { nx := fun _ H' => Q .non H', rt := Q } (L2.start [x1, x2] (O.v :: ws)) H := letters2_body (fun O D u h n => h.plus D u n) ok hφ p is q kk
end L3
namespace L3
section
open PySem PySem.Builtin PySem.Builtin.Str
def sOk (x : PySem.Str) : Prop := ∀ c ∈ x.cps.toList, c < 0x110000
theorem strOk_iff {x : PySem.Str} : PyData.strOk x = true ↔ sOk x := by
 unfold PyData.strOk sOk
 rw [Array.all_eq_true']
 simp
end
open PySem PySem.Spec
open PyProof.Rows hiding St
open L2
theorem canLayAll_map {α : Type} {f : α → PyData} : ∀ {l : List α}, (∀ a ∈ l, (f a).canLay0 = true) → PyData.canLayAll0 (l.map f) = true
 | [], _ => rfl
 | a :: l, h => by rw [List.map_cons, PyData.canLayAll0, h a List.mem_cons_self, canLayAll_map fun x hx => h x (List.mem_cons_of_mem _ hx)]; rfl
theorem showAll_map {α : Type} {f : α → PyData} : ∀ {l : List α}, (∀ a ∈ l, (f a).showable = true) → PyData.showableAll (l.map f) = true
 | [], _ => by simp [PyData.showableAll]
 | a :: l, h => by rw [List.map_cons, PyData.showableAll, h a List.mem_cons_self, showAll_map fun x hx => h x (List.mem_cons_of_mem _ hx)]; rfl
theorem depthAll_map {α : Type} {f : α → PyData} {n : Nat} : ∀ {l : List α}, (∀ a ∈ l, (f a).depth ≤ n) → PyData.depthAll (l.map f) ≤ n
 | [], _ => by simp [PyData.depthAll]
 | a :: l, h => by
   rw [List.map_cons, PyData.depthAll]
   exact Nat.max_le.mpr ⟨h a List.mem_cons_self, depthAll_map fun x hx => h x (List.mem_cons_of_mem _ hx)⟩
theorem shortAll_map {α : Type} {f : α → PyData} {B : Nat} : ∀ {l : List α}, (∀ a ∈ l, (f a).leavesShort B = true) → PyData.leavesShortAll B (l.map f) = true
 | [], _ => by simp [PyData.leavesShortAll]
 | a :: l, h => by rw [List.map_cons, PyData.leavesShortAll, h a List.mem_cons_self, shortAll_map fun x hx => h x (List.mem_cons_of_mem _ hx)]; rfl
theorem bulkAll_map {α : Type} {f : α → PyData} {n : Nat} : ∀ {l : List α}, (∀ a ∈ l, (f a).bulk ≤ n) → PyData.bulkAll (l.map f) ≤ l.length * (n + 1)
 | [], _ => by simp [PyData.bulkAll]
 | a :: l, h => by
   rw [List.map_cons, PyData.bulkAll, List.length_cons, Nat.succ_mul]
   have := h a List.mem_cons_self
   have := bulkAll_map (f := f) (n := n) fun x hx => h x (List.mem_cons_of_mem a hx)
   omega
theorem short_str {x : Str} (h : PyData.strOk x = true) {B : Nat} : (PyData.str x).leavesShort B = true := by
 have h := strOk_iff.mp h
 rw [PyData.leavesShort, List.all_eq_true]
 intro c hc
 have := h c hc
 exact decide_eq_true (by omega)
section
variable {K : PySem.W.Frag} {O : Ob}
def disS (m : Nat) (g : DS) : DS := fun Dd ρ => g Dd ρ ∨ ∃ ds, ρ[m]? = some (some (.own ds)) ∧ g Dd (ρ.set m (some (.im (.list ds))))
theorem sd_dis {m : Nat} {t : TS} {g : DS} (h : SD K O t g) : SD K O t (disS m g) := fun H₀ A σ H ρ D Dd r q P => by
 rcases q with q | ⟨ds, e, q⟩
 · exact h H₀ A σ H ρ D Dd r q P
 · exact h H₀ _ σ H _ D Dd (r.disown e) q (P.frm (.setIm (.refl _ _)))
def setS (n m : Nat) : DS := fun Dd ρ => ∃ d, ρ[m]? = some (some (.im d)) ∧ Dd.nx (ρ.set n (some (.im d)))
theorem sd_setV {n m : Nat} : SD K O (tAsg (tVar m) (gName n)) (setS n m) := fun H₀ A σ H ρ D Dd r q P => by
 obtain ⟨d, e, q⟩ := q
 obtain ⟨v, hv, h⟩ := r.at_ m _ e
 exact ⟨v, hv, P.nx _ _ H _ (r.setIm h) (.setIm (.refl _ _)) q⟩
end
section
variable {ι κ : Type} {P : Program} {w : World} {K : PySem.W.Frag} {mg : Str → Option Value} {base : Heap} {k : Nat} {X : ι → Cx} {O : κ → Ob} {st : Stmt} {g : DS} {pos : Pos}
theorem s_dis (m : Nat) (h : S3 K X O st g) : S3 K X O st (disS m g) := let ⟨t, p, d⟩ := h; ⟨t, p, fun j => sd_dis (d j)⟩
theorem s_setV (n m : Nat) {x y : Str} {px py : Pos} (hN : ∀ i, (X i).N.Nodup := by intro i; exact of_decide_eq_true (by kernel_rfl)) (hi : ∀ i, (X i).N[n]? = some x := by intro i; rfl) (hx : ∀ i, Loc (X i).env.scope x := by intro i; first | exact Or.inl rfl | exact Or.inr rfl)
   (hN2 : ∀ i, (X i).N[m]? = some y := by intro i; rfl) (hv : ∀ i, Vis (X i).env.scope y := by intro i; first | exact Or.inl rfl | exact Or.inr (Or.inl rfl) | exact Or.inr (Or.inr rfl)) (hd : (y == ("__debug__" : Str)) = false := by decide) (hcd : (y == ("__classdict__" : Str)) = false := by decide)
   (hs : ∀ i, swapsWith (.Name y py) (some (.Name x px)) pos.line (X i).env = pure false := by intro i; rfl) (hf : ∀ i, (X i).fn x = true ∨ (X i).env.scope.names.lookup x = some .local := by intro i; first | exact .inl rfl | exact .inr rfl) : S3 K X O (.Assign [.Name x px] (.Name y py) pos) (setS n m) :=
 ⟨_, fun i => ps_set (hN i) (hi i) (hx i) (pe_var (hN2 i) (hv i) hd hcd) (hs i) (hf i), fun j => sd_setV⟩
end
end L3
namespace L3
open PySem PySem.Spec
open PyProof.Rows hiding St
open L2
section
variable {K : PySem.W.Frag} {O : Ob} {X : Cx}
def chD (F F' : PyData → PyData → (R → Prop) → Prop) (fa fb fc : DE) : DE := fun ρ Q => fa ρ fun a => fb ρ fun b => F a.d b.d fun z => ∃ k, z.d = .bool k ∧ (if k = true then fc ρ fun c => F' b.d c.d Q else Q (.o (.bool false)))
theorem ed_chain {r r' : R2} {ta tb tc : TE} {F F' : PyData → PyData → (R → Prop) → Prop} {fa fb fc : DE} (hr : OpD K O r F) (hr' : OpD K O r' F') (ha : ED K O ta fa) (hb : ED K O tb fb) (hc : ED K O tc fc) : ED K O (tChain r r' ta tb tc) (chD F F' fa fb fc) := fun σ H ρ Q Qd S h k => by
 refine ha σ H ρ _ _ S h fun v H1 a s1 o1 h1 => ?_
 refine hb σ H1 ρ _ _ (S.stp s1) h1 fun w H2 b s2 o2 h2 => ?_
 have p1 := s1.p S.p
 have p2 := s2.p p1
 have ib := o2.is S.ok p1
 refine hr H2 v w a.d b.d _ _ S.ok p2 (Is.stp s2 (fun _ f => f) (fun _ f => f) (o1.is S.ok S.p)) ib h2 fun z H3 c s3 o3 ⟨kk, e, h3⟩ => ?_
 have iz := o3.is S.ok p2
 rw [e] at iz
 cases iz
 refine ⟨kk, rfl, ?_⟩
 cases kk with
 | true =>
   refine hc σ H3 ρ _ _ (((S.stp s1).stp s2).stp s3) h3 fun x H4 d s4 o4 h4 => ?_
   have p3 := s3.p p2
   refine hr' H4 w x b.d d.d _ _ S.ok (s4.p p3) (Is.stp s4 (fun _ f => f) (fun _ f => f) (Is.stp s3 (fun _ f => f) (fun _ f => f) ib)) (o4.is S.ok p3) h4 fun z H5 r5 s5 o5 h5 => ?_
   exact k z H5 r5 ((((s1.trans s2).trans s3).trans s4).trans s5) (Out.ahead S.ok S.p (((s1.trans s2).trans s3).trans s4) o5) h5
 | false => exact k _ H3 (.o (.bool false)) ((s1.trans s2).trans s3) (Is.bool false) h3
end
end L3
namespace L3
open PySem PySem.Spec
open PyProof.Rows hiding St
open L2
theorem mk_law5 {P : Program} {w : World} {K : PySem.W.Frag} {mg : Str → Option Value} {base : Heap} {k : Nat} {st st0 : Stmt} {rest : List Stmt} {N : List Str} {f₁ : Addr} {fd₁ : FuncData} (Fu : Fun K "law" "law" st f₁ fd₁) (S : FnScope ("_law_script" :: "_law_deal_here" :: N) ["_law_script"] (defScope st))
   (hs : defBody st = st0 :: rest)
   (first : ∀ (f : Addr) (cdv : Value) (A : Around) (outer : List Env) (s : Shared) (H : Hp) (E : XK), Ctx3 P w K mg base k (bodyX P w K mg base ("_law_script" :: "_law_deal_here" :: N) "law" (defScope st) f cdv A outer s H E) →
     PS (bodyX P w K mg base ("_law_script" :: "_law_deal_here" :: N) "law" (defScope st) f cdv A outer s H E ()) st0 (tAsg (tCall (spDeal K) [] E0 (tCons (tVar 0) (tCons (tC (.int 0)) tNil))) (gName 1)))
   (body : ∀ (f : Addr) (cdv : Value) (A : Around) (outer : List Env) (s : Shared) (H : Hp) (E : XK), Ctx3 P w K mg base k (bodyX P w K mg base ("_law_script" :: "_law_deal_here" :: N) "law" (defScope st) f cdv A outer s H E) →
     ∃ g, Ss3 K (bodyX P w K mg base ("_law_script" :: "_law_deal_here" :: N) "law" (defScope st) f cdv A outer s H E) (fun j : Addr × Addr => dealOb j.1 j.2) rest g ∧ g { nx := fun _ => False, rt := fun r => r = .o (.bool true) } (none :: some .ob :: List.replicate N.length none)) :
   FnOk P w K mg base CX0 (k + 1) f₁ fd₁ ["_law_script"] (spLaw K) := by
 refine Fu.ok S (fun vs H Q E h => by obtain ⟨a, ns, rfl, _⟩ := h; rfl) (fun cdv A outer s H vs Q E hr h => ?_)
 obtain ⟨a, ns, rfl, hS, hl, q⟩ := h
 have C := ctx_body (P := P) (w := w) (K := K) (mg := mg) (base := base) (N := "_law_script" :: "_law_deal_here" :: N) (x := "law") (sc := defScope st) (f := f₁) (cdv := cdv) (A := A) (outer := outer) (s := s) (H := H) (E := E) hr
 obtain ⟨g, ⟨t, h1, h2⟩, h3⟩ := body f₁ cdv A outer s H E C
 refine ⟨tSeq (tAsg (tCall (spDeal K) [] E0 (tCons (tVar 0) (tCons (tC (.int 0)) tNil))) (gName 1)) t, ?_, ?_⟩
 · rw [hs]
   exact pss_cons (first f₁ cdv A outer s H E C) (h1 ())
 · refine ⟨_, rfl, a, ns, rfl, hS, hl, fun p l s left H' hp hln sm pa => ?_⟩
   refine h2 (p, l) H' (fun _ _ => False) _ H' _ _ _ ⟨dealOb_ok p l, ⟨s, 0, left, pa⟩, ⟨s, 0, left, pa⟩, .refl _ _, fun _ _ _ z => z.elim, fun _ _ z => z.elim, fun i r e => ?_, ?_⟩ h3 ⟨fun _ _ _ _ _ _ z => z.elim, fun _ _ _ _ _ _ z => z.elim, fun _ _ _ _ _ _ z => z.elim, fun H' v r _ o e => ?_⟩
   · match i with
     | 0 => cases e
     | 1 => cases e; exact ⟨_, rfl, rfl⟩
     | i + 2 =>
       rw [List.getElem?_cons_succ, List.getElem?_cons_succ, List.getElem?_replicate] at e
       split at e <;> cases e
   · rw [List.length_set]
     simp [L2.start]
   · subst e
     cases o
     exact q H'
end L3
namespace L51
open PySem PySem.Spec
open PyProof.Rows hiding St
open L2 L3
def top (i : Nat) : Stmt := PySem.Challenge.pw_lostpost_k51_machines_as_grammars.main.body.getD i (.Pass ⟨0, 0, 0, 0⟩)
section
variable {P : Program} {w : World} {K : PySem.W.Frag} {mg : Str → Option Value} {base : Heap} {k : Nat}
abbrev DDraw (P : Program) (w : World) (K : PySem.W.Frag) (mg : Str → Option Value) (base : Heap) : Prop := Def3 P w K mg base 1 "_law_draw" ["_law_deal_here", "_law_many"] (spD K IsDeal 1 drawF)
abbrev sDeal : Stmt := top 4
theorem scDeal : FnScope ["_law_script", "_law_base", "_law_cells", "_law_number", "_law_cell"] ["_law_script", "_law_base"] (defScope sDeal) := ⟨rfl, rfl, rfl, by decide +kernel, rfl, by decide +kernel, by decide +kernel⟩
theorem d_law_deal (B : Blt mg) (T : Top3 K mg "_law_deal" sDeal) : Def3 P w K mg base 1 "_law_deal" ["_law_script", "_law_base"] (spDeal K) := by
 obtain ⟨f, fd, Fu, m⟩ := T.ex
 refine ⟨f, fd, Fu.ok scDeal (fun vs H Q E h => by obtain ⟨a, ns, rfl, _⟩ := h; rfl) (fun cdv A outer s H vs Q E hr h => ?_), m, Fu.kp, Fu.binds (fun _ _ _ _ _ _ us hl => len2 hl fun _ _ => rfl)⟩
 obtain ⟨a, ns, rfl, hS, hl, q⟩ := h
 refine ⟨tMakeG K (tOp (rI0 fun i j => .int (i + j)) (tC (.int 7919)) (tVar 1)) (tOp (rI (fun _ j => 0 < j) fun i j => .int (i % j)) (tOp (rI0 fun i j => .int (i + j)) (tOp (rI CMul fun i j => .int (i * j)) (tVar 3) (tC (.int 48271))) (tOp (rI (fun _ j => 0 < j) fun i j => .int (i % j)) (tVar 4) (tC (.int 2147483629)))) (tC (.int 2147483647))), ?_, makeG_body (s0 := 7919 + 0) (by decide) (by decide) (fun v v1 H Q q => ⟨_, rfl, 7919, 0, rfl, rfl, q⟩) (fun v v1 s n H Q h1 h2 q => ⟨_, rfl, s, 48271, rfl, rfl, .inl ⟨by omega, by omega⟩, _, rfl, n, 2147483629, rfl, rfl, (show (0 : Int) < 2147483629 by decide), _, _, rfl, rfl, _, _, rfl, rfl, (show (0 : Int) < 2147483647 by decide), q _ (Int.emod_nonneg _ (by decide)) (Int.lt_of_lt_of_le (Int.emod_lt_of_pos _ (by decide)) (by decide))⟩) hS hl q⟩
 have nd : (["_law_script", "_law_base", "_law_cells", "_law_number", "_law_cell"] : List Str).Nodup := by decide +kernel
 exact (pss_cons (ps_setComp (n0 := 2) nd rfl rfl rfl 1 (N' := ["_law_cell", "_law_script", "_law_base", "_law_cells", "_law_number", "._law_cell"]) (.of rfl (by kernel_rfl)) rfl (pi_list (pe_slice sl_list (pe_var (i := 0) rfl (by first | exact Or.inl rfl | exact Or.inr (Or.inl rfl) | exact Or.inr (Or.inr rfl))) (po_some (pe_var (i := 1) rfl (by first | exact Or.inl rfl | exact Or.inr (Or.inl rfl) | exact Or.inr (Or.inr rfl)))) (po_some pe_int))) (fun C s H ex => pg_name (of_decide_eq_true (by kernel_rfl)) rfl (by first | exact Or.inl rfl | exact Or.inr rfl) (by first | exact .inl rfl | exact .inr rfl)) (own_name (by decide)) (fun C s H ex => pf_nil) (fun C s H ex => pe_callB (call_max2 rfl) rfl B.max bt_max (pa_cons (pe_var (i := 0) rfl (by first | exact Or.inl rfl | exact Or.inr (Or.inl rfl) | exact Or.inr (Or.inr rfl))) (pa_cons (pe_op op_sub pe_int (pe_var (i := 0) rfl (by first | exact Or.inl rfl | exact Or.inr (Or.inl rfl) | exact Or.inr (Or.inr rfl)))) pa_nil))))
   (pss_cons (ps_set (i := 3) nd rfl (by first | exact Or.inl rfl | exact Or.inr rfl) (pe_op op_add pe_int (pe_var (i := 1) rfl (by first | exact Or.inl rfl | exact Or.inr (Or.inl rfl) | exact Or.inr (Or.inr rfl)))))
   (pss_cons (ps_for PassesOwn.never rfl (pi_list (pe_var (i := 2) rfl (by first | exact Or.inl rfl | exact Or.inr (Or.inl rfl) | exact Or.inr (Or.inr rfl)))) (pg_name (i := 4) nd rfl (by first | exact Or.inl rfl | exact Or.inr rfl)) (pss_one (ps_set (i := 3) nd rfl (by first | exact Or.inl rfl | exact Or.inr rfl) (pe_op op_mod (pe_op op_add (pe_op op_mul (pe_var (i := 3) rfl (by first | exact Or.inl rfl | exact Or.inr (Or.inl rfl) | exact Or.inr (Or.inr rfl))) pe_int) (pe_op op_mod (pe_var (i := 4) rfl (by first | exact Or.inl rfl | exact Or.inr (Or.inl rfl) | exact Or.inr (Or.inr rfl))) pe_int)) pe_int))))
   (pss_one (ps_ret (pe_disp (pps_cons pe_str (pe_var (i := 3) rfl (by first | exact Or.inl rfl | exact Or.inr (Or.inl rfl) | exact Or.inr (Or.inr rfl))) (pps_cons pe_str pe_int (pps_cons pe_str (pe_listrev (hr.hd) rfl B.list rfl B.reversed (pe_comp 1 (N' := ["_law_cell", "_law_script", "_law_base", "_law_cells", "_law_number", "._law_cell"]) (.of rfl (by kernel_rfl)) rfl (pi_list (pe_var (i := 2) rfl (by first | exact Or.inl rfl | exact Or.inr (Or.inl rfl) | exact Or.inr (Or.inr rfl)))) (fun C s H ex => pg_name (of_decide_eq_true (by kernel_rfl)) rfl (by first | exact Or.inl rfl | exact Or.inr rfl) (by first | exact .inl rfl | exact .inr rfl)) (own_name (by decide)) (fun C s H ex => pf_one (pt_cmpR op_ge (pe_var (i := 0) rfl (by first | exact Or.inl rfl | exact Or.inr (Or.inl rfl) | exact Or.inr (Or.inr rfl))) (pe_op op_pow pe_int pe_int) (nomark _))) (fun C s H ex => (pe_var (i := 0) rfl (by first | exact Or.inl rfl | exact Or.inr (Or.inl rfl) | exact Or.inr (Or.inr rfl)))))) pps_nil))) rfl rfl (by simp) (by decide)))))))
def dc : DC := ⟨7919, 40692, 104729, 2147483399, 2147483563, 2147483629⟩
theorem dc_ok : dc.Ok := ⟨by decide, by decide, by decide, by decide⟩
abbrev sDraw : Stmt := top 5
theorem scDraw : FnScope ["_law_deal_here", "_law_many", "_law_number", "_law_one", "_law_other"] ["_law_deal_here", "_law_many"] (defScope sDraw) := ⟨rfl, rfl, rfl, by decide +kernel, rfl, by decide +kernel, by decide +kernel⟩
theorem d_law_draw (B : Blt mg) (T : Top3 K mg "_law_draw" sDraw) : Def3 P w K mg base 1 "_law_draw" ["_law_deal_here", "_law_many"] (spD K IsDeal 1 drawF) := by
 obtain ⟨f, fd, Fu, m⟩ := T.ex
 refine ⟨f, fd, Fu.ok scDraw (spD_len rfl) (fun cdv A outer s H vs Q E hr h => ?_), m, Fu.kp, Fu.binds (fun _ _ _ _ _ _ us hl => len2 hl fun _ _ => rfl)⟩
 obtain ⟨O, ds, ws, Qr, ok, hφ, p, hl, rfl, is, q, kk⟩ := h
 refine ⟨tDealDG K dc, ?_, dealDG_body dc_ok hφ p is q kk⟩
 have nd : (["_law_deal_here", "_law_many", "_law_number", "_law_one", "_law_other"] : List Str).Nodup := by decide +kernel
 exact (pss_cons (ps_while PassesOwn.never (PW.pt (pw_and (pt_cmpR op_eq (pe_dget (hu_of hr) (pe_var (i := 0) rfl (by first | exact Or.inl rfl | exact Or.inr (Or.inl rfl) | exact Or.inr (Or.inr rfl))) pe_str (fun _ _ => rfl)) pe_int (nomark _)) (pw_and1 (pt_cmpR op_gt (pe_callB call_len rfl B.len bt_len (pa_cons (pe_dget (hu_of hr) (pe_var (i := 0) rfl (by first | exact Or.inl rfl | exact Or.inr (Or.inl rfl) | exact Or.inr (Or.inr rfl))) pe_str (fun _ _ => rfl)) pa_nil)) pe_int (nomark _))))) (pss_one (ps_dput (hu_of hr) (pe_var (i := 0) rfl (by first | exact Or.inl rfl | exact Or.inr (Or.inl rfl) | exact Or.inr (Or.inr rfl))) pe_str (pe_bm0 PySem.F.plainAttrs_list PySem.F.slot_list_pop PySem.F.type_list_pop mtr_pop (pe_dget (hu_of hr) (pe_var (i := 0) rfl (by first | exact Or.inl rfl | exact Or.inr (Or.inl rfl) | exact Or.inr (Or.inr rfl))) pe_str (fun _ _ => rfl))) rfl)))
   (pss_cons (ps_set (i := 2) nd rfl (by first | exact Or.inl rfl | exact Or.inr rfl) (pe_dget (hu_of hr) (pe_var (i := 0) rfl (by first | exact Or.inl rfl | exact Or.inr (Or.inl rfl) | exact Or.inr (Or.inr rfl))) pe_str (fun _ _ => rfl)))
   (pss_cons (ps_if (pt_cmpR op_gt (pe_var (i := 2) rfl (by first | exact Or.inl rfl | exact Or.inr (Or.inl rfl) | exact Or.inr (Or.inr rfl))) pe_int (nomark _)) (pss_cons (ps_dput (hu_of hr) (pe_var (i := 0) rfl (by first | exact Or.inl rfl | exact Or.inr (Or.inl rfl) | exact Or.inr (Or.inr rfl))) pe_str (pe_op op_fdiv (pe_var (i := 2) rfl (by first | exact Or.inl rfl | exact Or.inr (Or.inl rfl) | exact Or.inr (Or.inr rfl))) (pe_var (i := 1) rfl (by first | exact Or.inl rfl | exact Or.inr (Or.inl rfl) | exact Or.inr (Or.inr rfl)))) rfl) (pss_one (ps_ret (pe_op op_mod (pe_var (i := 2) rfl (by first | exact Or.inl rfl | exact Or.inr (Or.inl rfl) | exact Or.inr (Or.inr rfl))) (pe_var (i := 1) rfl (by first | exact Or.inl rfl | exact Or.inr (Or.inl rfl) | exact Or.inr (Or.inr rfl))))))) pss_nil)
   (pss_cons (ps_set (i := 3) nd rfl (by first | exact Or.inl rfl | exact Or.inr rfl) (pe_op op_mod (pe_op op_add (pe_op op_mul (pe_dget (hu_of hr) (pe_var (i := 0) rfl (by first | exact Or.inl rfl | exact Or.inr (Or.inl rfl) | exact Or.inr (Or.inr rfl))) pe_str (fun _ _ => rfl)) pe_int) pe_int) pe_int))
   (pss_cons (ps_dput (hu_of hr) (pe_var (i := 0) rfl (by first | exact Or.inl rfl | exact Or.inr (Or.inl rfl) | exact Or.inr (Or.inr rfl))) pe_str (pe_op op_mod (pe_op op_add (pe_op op_mul (pe_var (i := 3) rfl (by first | exact Or.inl rfl | exact Or.inr (Or.inl rfl) | exact Or.inr (Or.inr rfl))) pe_int) pe_int) pe_int) rfl)
   (pss_cons (ps_set (i := 4) nd rfl (by first | exact Or.inl rfl | exact Or.inr rfl) (pe_op op_mod (pe_op op_mul (pe_dget (hu_of hr) (pe_var (i := 0) rfl (by first | exact Or.inl rfl | exact Or.inr (Or.inl rfl) | exact Or.inr (Or.inr rfl))) pe_str (fun _ _ => rfl)) (pe_dget (hu_of hr) (pe_var (i := 0) rfl (by first | exact Or.inl rfl | exact Or.inr (Or.inl rfl) | exact Or.inr (Or.inr rfl))) pe_str (fun _ _ => rfl))) pe_int))
   (pss_one (ps_ret (pe_op op_mod (pe_op op_add (pe_op op_mul (pe_op op_mod (pe_op op_mul (pe_var (i := 3) rfl (by first | exact Or.inl rfl | exact Or.inr (Or.inl rfl) | exact Or.inr (Or.inr rfl))) (pe_var (i := 3) rfl (by first | exact Or.inl rfl | exact Or.inr (Or.inl rfl) | exact Or.inr (Or.inr rfl)))) pe_int) pe_int) (pe_var (i := 4) rfl (by first | exact Or.inl rfl | exact Or.inr (Or.inl rfl) | exact Or.inr (Or.inr rfl)))) (pe_var (i := 1) rfl (by first | exact Or.inl rfl | exact Or.inr (Or.inl rfl) | exact Or.inr (Or.inr rfl))))))))))))
abbrev sLetters : Stmt := top 7
theorem scLetters : FnScope ["_law_deal_here", "_law_left"] ["_law_deal_here"] (defScope sLetters) := ⟨rfl, rfl, rfl, by decide +kernel, rfl, by decide +kernel, by decide +kernel⟩
theorem d_law_letters (B : Blt mg) (d_law_draw : DDraw P w K mg base) (T : Top3 K mg "_law_letters" sLetters) : Def3 P w K mg base 2 "_law_letters" ["_law_deal_here"] (spD K IsDeal 0 letters2F) := by
 obtain ⟨f, fd, Fu, m⟩ := T.ex
 refine ⟨f, fd, Fu.ok scLetters (spD_len rfl) (fun cdv A outer s H vs Q E hr h => ?_), m, Fu.kp, Fu.binds (fun _ _ _ _ _ _ us hl => len1 hl fun _ => rfl)⟩
 obtain ⟨O, ds, ws, Qr, ok, hφ, p, hl, rfl, is, q, kk⟩ := h
 refine ⟨tLetters2 K (spD K IsDeal 1 drawF), ?_, letters2_deal ok hφ p is q kk⟩
 have nd : (["_law_deal_here", "_law_left"] : List Str).Nodup := by decide +kernel
 obtain ⟨fD, fdD, G, mD, kpD, bnD⟩ := d_law_draw.ex
 exact pss_cons (ps_set (i := 1) nd rfl (by first | exact Or.inl rfl | exact Or.inr rfl) (pe_callTy (call_listS rfl) rfl B.list bt_list (pa_cons pe_str pa_nil)))
   (pss_one (ps_ret (pe_callB call_sortS rfl B.sorted bt_sorted (pa_cons
     (pe_comp 1 (N' := ["_law_k", "_law_deal_here", "_law_left"]) (.of rfl (by kernel_rfl)) rfl (pi_range1 rfl B.range (pa_cons (pe_op op_add pe_int (pe_call (k := 1) (by exact G) (by exact hr) rfl mD kpD bnD .nil pass0 (pa_cons (pe_var (i := 0) rfl (by first | exact Or.inl rfl | exact Or.inr (Or.inl rfl) | exact Or.inr (Or.inr rfl))) (pa_cons pe_int pa_nil)))) pa_nil))
       (fun C s H ex => pg_name (of_decide_eq_true (by kernel_rfl)) rfl (by first | exact Or.inl rfl | exact Or.inr rfl) (by first | exact .inl rfl | exact .inr rfl)) (own_name (by decide)) (fun C s H ex => pf_nil)
       (fun C s H ex => pe_bm PySem.F.plainAttrs_list PySem.F.slot_list_pop PySem.F.type_list_pop mtr_popAt (pe_var (i := 2) rfl (by first | exact Or.inl rfl | exact Or.inr (Or.inl rfl) | exact Or.inr (Or.inr rfl)))
         (pa_cons (pe_call (k := 1) (by exact G) (by exact hr) rfl mD kpD bnD .nil pass0 (pa_cons (pe_var (i := 1) rfl (by first | exact Or.inl rfl | exact Or.inr (Or.inl rfl) | exact Or.inr (Or.inr rfl))) (pa_cons (pe_callB call_len rfl B.len bt_len (pa_cons (pe_var (i := 2) rfl (by first | exact Or.inl rfl | exact Or.inr (Or.inl rfl) | exact Or.inr (Or.inr rfl))) pa_nil)) pa_nil))) pa_nil))) pa_nil))))
end
end L51
namespace L3
open PySem PySem.Spec
open PyProof.Rows hiding St
open L2
def tyD : PyData → String
 | .none => "NoneType"
 | .bool _ => "bool"
 | .int _ => "int"
 | .str _ => "str"
 | .list _ => "list"
 | .tuple _ => "tuple"
 | .dict _ => "dict"
def isKind (d : PyData) (T : String) : Option Bool := match T with
 | "int" => some (match d with | .int _ => true | .bool _ => true | _ => false)
 | "bool" => some (match d with | .bool _ => true | _ => false)
 | "str" => some (match d with | .str _ => true | _ => false)
 | "tuple" => some (match d with | .tuple _ => true | _ => false)
 | "list" => some (match d with | .list _ => true | _ => false)
 | _ => none
theorem kit_kind (K : PySem.W.Frag) {d : PyData} {T : String} {b : Bool} (h : isKind d T = some b) (hd : ∀ kvs, d ≠ .dict kvs) : PySem.W.kitOne K (.type (tyD d)) (.type T) = some b := by
 unfold isKind at h
 split at h
 all_goals first
   | (cases h; cases d <;> first | rfl | exact absurd rfl (hd _))
   | cases h
def tIsI (K : PySem.W.Frag) (T : String) (te : TE) : TE := fun σ H Q => te σ H fun v H1 => ∃ F d b, Is K F H1 v d ∧ isKind d T = some b ∧ Q (.bl b) H1
theorem isinst_data {X : Cx} {pins : List (Addr × Obj)} {σ : St} {H : Hp} {s : Shared} {A : Around} {E : Value → Shared → Prop} {Q : Value → Shared → Prop} {x : V} {u : Value} {F : Addr → Prop} {d : PyData} {T : String} {b : Bool} (I : Inv X pins σ H s) (rx : RelV x u) (is : Is X.K F H x d) (e : isKind d T = some b) (h : ∀ tk, Q (.bool b) { s with toks := tk }) :
   wpAny (model X.prog X.w) A (call (.builtin "isinstance") [u, .type T]) Q E s := by
 cases is with
 | none => exact isinst_ok I rx .non (kit_kind _ e fun _ z => nomatch z) h
 | bool y => exact isinst_ok I rx (.bl y) (kit_kind _ e fun _ z => nomatch z) h
 | int i => exact isinst_ok I rx (.int i) (kit_kind _ e fun _ z => nomatch z) h
 | str y => exact isinst_ok I rx (.str y) (kit_kind _ e fun _ z => nomatch z) h
 | list f q r => exact isinst_ok I rx (.lst q) (kit_kind _ e fun _ z => nomatch z) h
 | @tuple a xs ds q r =>
   cases (show u = Value.ref a from rx)
   obtain ⟨its, _, ⟨o, h1, h2, _⟩, _⟩ := I.tuple q
   exact PySem.W.kia_one PySem.W.kitx_tuple I.kIn ⟨o, h1, h2⟩ (kit_kind X.K (d := .tuple ds) e fun _ z => nomatch z) (fun z => nomatch z) h
theorem pe_isI {X : Cx} {e : Expr} {te : TE} {T : String} {x : Str} {p1 p2 p3 : Pos} (gi : Gl X "isinstance") (mi : X.mg "isinstance" = none) (gT : Gl X x) (mT : X.mg x = none) (hT : bootBuiltins x = some (.type T)) (he : PE X e te) (hn : x ≠ "__name__" := by decide) (hdb : (x == ("__debug__" : Str)) = false := by decide)
   (s1 : starEach [e, .Name x p2] X.env = (false, eval e X.env) :: (false, eval (.Name x p2) X.env) :: starEach [] X.env := by rfl) (s2 : starEach [e, .Name x p2] X.env = (false, eval e X.env) :: starEach [.Name x p2] X.env := by rfl) (s3 : (backTo p3 (starEach [.Name x p2] X.env)).any (·.1) = false := by rfl) :
   PE X (.Call (.Name "isinstance" p1) [e, .Name x p2] [] p3) (tIsI X.K T te) := by
 intro pins s σ H Q I h
 refine wpAny_Call_Name_kw (ld_blt I gi mi (u := .builtin "isinstance") (by decide +kernel) ?_)
 refine PyProof.Rows.callWith_builtin1 ?_ s2 s3
 rw [s1]
 show wpAny _ _ (spliced ((false, eval e X.env) :: (false, eval (.Name x p2) X.env) :: [])) _ _ s
 refine Calls.spliced_cons (thn (he pins s σ H _ I h) fun u s' ⟨y, H1, I1, r1, F, d, b, is, ek, q⟩ => ?_)
 refine Calls.spliced_cons (ld_blt I1 gT mT hT (Calls.spliced_nil ?_) hn hdb)
 exact isinst_data I1 r1 is ek fun tk => ⟨.bl b, H1, I1.tok _, rfl, q⟩
def isID (T : String) (f : DE) : DE := fun ρ Q => f ρ fun r => ∃ b, isKind r.d T = some b ∧ Q (.o (.bool b))
theorem ed_isI {K : PySem.W.Frag} {O : Ob} {T : String} {t : TE} {f : DE} (h : ED K O t f) : ED K O (tIsI K T t) (isID T f) := fun σ H ρ Q Qd S hf k => by
 refine h σ H ρ _ _ S hf fun v H1 r s1 o1 ⟨b, e, q⟩ => ?_
 exact ⟨_, r.d, b, o1.is S.ok S.p, e, k _ H1 (.o (.bool b)) s1 (Is.bool b) q⟩
section
variable {ι κ : Type} {P : Program} {w : World} {K : PySem.W.Frag} {mg : Str → Option Value} {base : Heap} {k : Nat} {X : ι → Cx} {O : κ → Ob} {a : Expr} {fa : DE} {pos p p2 : Pos}
theorem e_isI {x : Str} {T : String} (C : Ctx3 P w K mg base k X) (B : Blt mg) (ha : E3 K X O a fa) (hm : mg x = none) (hT : bootBuiltins x = some (.type T) := by decide +kernel) (hg : ∀ i, Gl (X i) "isinstance" := by intro i; rfl) (hg2 : ∀ i, Gl (X i) x := by intro i; rfl) (hn : x ≠ "__name__" := by decide) (hdb : (x == ("__debug__" : Str)) = false := by decide)
   (s1 : ∀ i, starEach [a, .Name x p2] (X i).env = (false, eval a (X i).env) :: (false, eval (.Name x p2) (X i).env) :: starEach [] (X i).env := by intro i; rfl) (s2 : ∀ i, starEach [a, .Name x p2] (X i).env = (false, eval a (X i).env) :: starEach [.Name x p2] (X i).env := by intro i; rfl) (s3 : ∀ i, (backTo pos (starEach [.Name x p2] (X i).env)).any (·.1) = false := by intro i; rfl) :
   E3 K X O (.Call (.Name "isinstance" p) [a, .Name x p2] [] pos) (isID T fa) :=
 let ⟨_, q, d⟩ := ha; ⟨_, fun i => by
   have h := pe_isI (p1 := p) (p3 := pos) (hg i) (by rw [C.hmg]; exact B.isinstance) (hg2 i) (by rw [C.hmg]; exact hm) hT (q i) hn hdb (s1 i) (s2 i) (s3 i)
   rw [C.hK] at h
   exact h, fun j => ed_isI (d j)⟩
end
end L3
namespace L3
open PySem PySem.Spec
open PyProof.Rows hiding St
open L2
abbrev tS (w : List Nat) : PyData := .str (tx w)
end L3
namespace L3
open PySem PySem.Spec
open PyProof.Rows hiding St
open L2
mutual
def solid : PyData → Bool
 | .none => true
 | .int _ => true
 | .str _ => true
 | .tuple ds => solids ds
 | _ => false
def solids : List PyData → Bool
 | [] => true
 | d :: ds => solid d && solids ds
end
mutual
theorem eqv_solid : ∀ d e : PyData, solid d = true → solid e = true → (PyData.eqv d e = true ↔ d = e)
 | .none, e, _, h => by cases e <;> simp [PyData.eqv, solid] at *
 | .int i, e, _, h => by cases e <;> simp [PyData.eqv, solid] at *
 | .str x, e, _, h => by cases e <;> simp [PyData.eqv, solid] at *
 | .tuple ds, e, h0, h => by
   cases e with
   | tuple es =>
     have := eqv_solids ds es (by simpa [solid] using h0) (by simpa [solid] using h)
     simp only [PyData.eqv]
     rw [this]
     exact ⟨fun z => by rw [z], fun z => by cases z; rfl⟩
   | none => simp [PyData.eqv]
   | int _ => simp [PyData.eqv]
   | str _ => simp [PyData.eqv]
   | bool _ => simp [solid] at h
   | list _ => simp [solid] at h
   | dict _ => simp [solid] at h
 | .bool _, _, h, _ => by simp [solid] at h
 | .list _, _, h, _ => by simp [solid] at h
 | .dict _, _, h, _ => by simp [solid] at h
theorem eqv_solids : ∀ ds es : List PyData, solids ds = true → solids es = true → (PyData.eqvAll ds es = true ↔ ds = es)
 | [], [], _, _ => by simp [PyData.eqvAll]
 | [], _ :: _, _, _ => by simp [PyData.eqvAll]
 | _ :: _, [], _, _ => by simp [PyData.eqvAll]
 | d :: ds, e :: es, h, h' => by
   simp only [solids, Bool.and_eq_true] at h h'
   simp only [PyData.eqvAll, Bool.and_eq_true]
   rw [eqv_solid d e h.1 h'.1, eqv_solids ds es h.2 h'.2]
   simp
end
structure Nice (n b : Nat) (d : PyData) : Prop where
 lay : d.canLay0 = true
 sh : d.showable = true
 sho : d.leavesShort 13 = true
 dep : d.depth ≤ n
 bul : d.bulk ≤ b
 sol : solid d = true
theorem Nice.more {n b n' b' : Nat} {d : PyData} (h : Nice n b d) (hn : n ≤ n') (hb : b ≤ b') : Nice n' b' d := ⟨h.lay, h.sh, h.sho, Nat.le_trans h.dep hn, Nat.le_trans h.bul hb, h.sol⟩
theorem nice_str {x : Str} {b : Nat} (h : PyData.strOk x = true) (hb : x.length ≤ b) : Nice 0 b (.str x) := ⟨h, by simp [PyData.showable], short_str h, Nat.le_refl _, hb, rfl⟩
theorem nice_txt {v : List Nat} {b : Nat} (h : ∀ c ∈ v, c < 1000) (hb : v.length ≤ b) : Nice 0 b (tS v) := nice_str (by
 rw [strOk_iff]
 intro c hc
 rw [tx_toList] at hc
 have := h c hc
 omega) (by rw [tx_len]; exact hb)
theorem num3 : ∀ n, n < 1000 → (Nat.toDigits 10 n).length ≤ 3 := by decide +kernel
theorem nice_nat {n : Nat} (h : n < 1000) : Nice 0 0 (.int (n : Nat)) := by
 refine ⟨rfl, ?_, ?_, Nat.le_refl _, Nat.le_refl _, rfl⟩
 · rw [PyData.showable, Int.natAbs_natCast]
   exact decide_eq_true (Nat.lt_of_le_of_lt (Nat.log2_le_self n) (by omega))
 · rw [PyData.leavesShort, PyData.shown_int]
   refine decide_eq_true ?_
   show (Str.ofString (toString ((n : Nat) : Int))).cps.size ≤ 13
   have e := PySem.W.KIN.signs_num n
   have e2 : (Str.ofString (toString ((n : Nat) : Int))).cps.size = (Nat.toDigits 10 n).length := by
     rw [← Array.length_toList, e, List.length_map]
   rw [e2]
   have := num3 n h
   omega
theorem solids_map {α : Type} {f : α → PyData} : ∀ {l : List α}, (∀ a ∈ l, solid (f a) = true) → solids (l.map f) = true
 | [], _ => rfl
 | a :: l, h => by rw [List.map_cons, solids, h a List.mem_cons_self, solids_map fun x hx => h x (List.mem_cons_of_mem _ hx)]; rfl
theorem nice_map {α : Type} {f : α → PyData} {l : List α} {n b m : Nat} (h : ∀ a ∈ l, Nice n b (f a)) (hl : l.length ≤ m) : Nice (n + 1) (m * (b + 1)) (.tuple (l.map f)) := by
 refine ⟨canLayAll_map fun a ha => (h a ha).lay, ?_, ?_, ?_, ?_, ?_⟩
 · rw [PyData.showable]; exact showAll_map fun a ha => (h a ha).sh
 · rw [PyData.leavesShort]; exact shortAll_map fun a ha => (h a ha).sho
 · rw [PyData.depth]
   have := depthAll_map (f := f) (n := n) (l := l) fun a ha => (h a ha).dep
   omega
 · rw [PyData.bulk]
   have := bulkAll_map (f := f) (n := b) (l := l) fun a ha => (h a ha).bul
   exact Nat.le_trans this (Nat.mul_le_mul_right _ hl)
 · rw [solid]; exact solids_map fun a ha => (h a ha).sol
theorem nice_nil : Nice 1 0 (.tuple []) := ⟨rfl, by simp [PyData.showable, PyData.showableAll], by simp [PyData.leavesShort, PyData.leavesShortAll], by simp [PyData.depth, PyData.depthAll], Nat.le_refl _, rfl⟩
theorem nice_cons {n b b' : Nat} {d : PyData} {ds : List PyData} (h : Nice n b d) (h' : Nice (n + 1) b' (.tuple ds)) : Nice (n + 1) (b + 1 + b') (.tuple (d :: ds)) := by
 obtain ⟨a1, a2, a3, a4, a5, a6⟩ := h
 obtain ⟨b1, b2, b3, b4, b5, b6⟩ := h'
 simp only [PyData.canLay0, PyData.showable, PyData.leavesShort, PyData.depth, PyData.bulk, solid] at b1 b2 b3 b4 b5 b6
 refine ⟨?_, ?_, ?_, ?_, ?_, ?_⟩
 · simp only [PyData.canLay0, PyData.canLayAll0, a1, b1]; rfl
 · simp only [PyData.showable, PyData.showableAll, a2, b2]; rfl
 · simp only [PyData.leavesShort, PyData.leavesShortAll, a3, b3]; rfl
 · simp only [PyData.depth, PyData.depthAll]; omega
 · simp only [PyData.bulk, PyData.bulkAll]; omega
 · simp only [solid, solids, a6, b6]; rfl
theorem nice_nilN (n : Nat) : Nice (n + 1) 0 (.tuple []) := nice_nil.more (by omega) (Nat.le_refl _)
theorem Nice.okD {n b : Nat} {d : PyData} (h : Nice n b d) (hn : n ≤ 60 := by decide) : L3.okD d = true := by
 unfold L3.okD
 rw [h.lay]
 have := h.dep
 simp
 omega
theorem eq_nice {n b n' b' : Nat} {neg : Bool} {d e : PyData} (h : Nice n b d) (h' : Nice n' b' e) (hn : n ≤ 60 := by decide) {q : Bool} (hq : q = true ↔ d = e) : eqF neg d e = some (.o (.bool (if neg then !q else q))) := by
 unfold eqF
 rw [if_pos (by rw [h.okD hn, h'.lay]; rfl)]
 have e1 : PyData.eqv d e = q := by
   have := (eqv_solid d e h.sol h'.sol).trans hq.symm
   cases h1 : PyData.eqv d e <;> cases q <;> simp_all
 rw [e1]
theorem idx_lst {ds : List PyData} {i : Nat} {d : PyData} (h : ds[i]? = some d) : idxF (.list ds) (.int (i : Nat)) = some (.o d) := by
 show (atI ds _).map R.o = _
 rw [atI_nat (v := d) h]
 rfl
end L3
namespace L6
structure WO {α : Type} (blt : α → α → Bool) : Prop where
 irr : ∀ a, blt a a = false
 tr : ∀ a b c, blt a b = true → blt b c = true → blt a c = true
 neg : ∀ a b c, blt a c = true → blt a b = true ∨ blt b c = true
section
variable {α : Type} {blt : α → α → Bool} {k : Nat → α}
def Rk (blt : α → α → Bool) (k : Nat → α) (a b : Nat) : Prop := blt (k a) (k b) = true ∨ (blt (k b) (k a) = false ∧ a < b)
theorem Rk.trans (W : WO blt) {a b c : Nat} (h : Rk blt k a b) (h' : Rk blt k b c) : Rk blt k a c := by
 rcases h with h | ⟨h, l⟩ <;> rcases h' with h' | ⟨h', l'⟩
 · exact .inl (W.tr _ _ _ h h')
 · rcases W.neg _ (k c) _ h with z | z
   · exact .inl z
   · rw [h'] at z; cases z
 · rcases W.neg _ (k a) _ h' with z | z
   · rw [h] at z; cases z
   · exact .inl z
 · refine .inr ⟨?_, by omega⟩
   cases e : blt (k c) (k a) with
   | false => rfl
   | true =>
     rcases W.neg _ (k b) _ e with z | z
     · rw [h'] at z; cases z
     · rw [h] at z; cases z
theorem Rk.le (W : WO blt) {a b : Nat} (h : Rk blt k a b) : blt (k b) (k a) = false := by
 rcases h with h | ⟨h, _⟩
 · cases e : blt (k b) (k a) with
   | false => rfl
   | true => have := W.tr _ _ _ h e; rw [W.irr] at this; cases this
 · exact h
theorem lt_of_le (W : WO blt) {x y z : α} (h : blt x y = true) (h' : blt z y = false) : blt x z = true := by
 rcases W.neg _ z _ h with e | e
 · exact e
 · rw [h'] at e; cases e
theorem le_lt (W : WO blt) {x y z : α} (h : blt y x = false) (h' : blt y z = true) : blt x z = true := by
 rcases W.neg _ x _ h' with e | e
 · rw [h] at e; cases e
 · exact e
theorem le_le (W : WO blt) {x y z : α} (h : blt y x = false) (h' : blt z y = false) : blt z x = false := by
 cases e : blt z x with
 | false => rfl
 | true =>
   rcases W.neg _ y _ e with q | q
   · rw [h'] at q; cases q
   · rw [h] at q; cases q
def Up (blt : α → α → Bool) (k : Nat → α) (ix : Nat → Nat) (m : Nat) : Prop := ∀ i j, i < j → j < m → Rk blt k (ix i) (ix j)
def Dn (blt : α → α → Bool) (k : Nat → α) (ix : Nat → Nat) (m : Nat) : Prop := ∀ i j, i < j → j < m → Rk blt k (ix j) (ix i)
structure Pre (ix : Nat → Nat) (m : Nat) : Prop where
 lt : ∀ i, i < m → ix i < m
 id : ∀ i, m ≤ i → ix i = i
theorem Pre.more {ix : Nat → Nat} {m n : Nat} (h : Pre ix m) (hm : m ≤ n) : Pre ix n :=
 ⟨fun i hi => by
   by_cases z : i < m
   · have := h.lt i z; omega
   · rw [h.id i (by omega)]; exact hi, fun i hi => h.id i (by omega)⟩
theorem Pre.idf : Pre (fun i => i) m := ⟨fun _ h => h, fun _ _ => rfl⟩
def mixF (ix : Nat → Nat) (i j : Nat) : Nat → Nat := fun p => if i ≤ p ∧ p < j then ix (i + j - 1 - p) else ix p
def bubF (ix : Nat → Nat) (s l : Nat) : Nat → Nat := fun p => if p = l then ix s else if l < p ∧ p ≤ s then ix (p - 1) else ix p
theorem Pre.mix {ix : Nat → Nat} {m i j : Nat} (h : Pre ix m) (hj : j ≤ m) : Pre (mixF ix i j) m := by
 refine ⟨fun p hp => ?_, fun p hp => ?_⟩
 · unfold mixF
   split
   · exact h.lt _ (by omega)
   · exact h.lt _ hp
 · unfold mixF
   rw [if_neg (by omega)]
   exact h.id p hp
theorem Pre.bub {ix : Nat → Nat} {s l : Nat} (h : Pre ix s) (hl : l ≤ s) : Pre (bubF ix s l) (s + 1) := by
 refine ⟨fun p hp => ?_, fun p hp => ?_⟩
 · unfold bubF
   split
   · rw [h.id s (Nat.le_refl _)]; omega
   · split
     · have := h.lt (p - 1) (by omega); omega
     · have := h.lt p (by omega); omega
 · unfold bubF
   rw [if_neg (by omega), if_neg (by omega)]
   exact h.id p (by omega)
theorem up_one {ix : Nat → Nat} (W : WO blt) {m : Nat} (h : Up blt k ix m) (hm : 0 < m) (n : Rk blt k (ix (m - 1)) (ix m)) : Up blt k ix (m + 1) := fun i j hij hj => by
 by_cases e : j < m
 · exact h i j hij e
 · have : j = m := by omega
   subst this
   by_cases e2 : i = j - 1
   · subst e2; exact n
   · exact (h i (j - 1) (by omega) (by omega)).trans W n
theorem up_mix {ix : Nat → Nat} {m : Nat} (h : Dn blt k ix m) : Up blt k (mixF ix 0 m) m := fun i j hij hj => by
 unfold mixF
 rw [if_pos (by omega), if_pos (by omega)]
 exact h _ _ (by omega) (by omega)
theorem up_bub {ix : Nat → Nat} {s l : Nat} (h : Up blt k ix s) (p : Pre ix s) (hl : l ≤ s) (lo : ∀ i, i < l → blt (k s) (k (ix i)) = false) (hi : ∀ i, l ≤ i → i < s → blt (k s) (k (ix i)) = true) : Up blt k (bubF ix s l) (s + 1) := by
 have es := p.id s (Nat.le_refl _)
 intro i j hij hj
 unfold bubF
 by_cases a : i = l
 · rw [if_pos a, if_neg (by omega), if_pos (by omega), es]
   exact .inl (hi _ (by omega) (by omega))
 · rw [if_neg a]
   by_cases b : l < i ∧ i ≤ s
   · rw [if_pos b, if_neg (by omega), if_pos (by omega)]
     exact h _ _ (by omega) (by omega)
   · rw [if_neg b]
     by_cases c : j = l
     · rw [if_pos c, es]
       exact .inr ⟨lo i (by omega), p.lt i (by omega)⟩
     · rw [if_neg c]
       by_cases d : l < j ∧ j ≤ s
       · rw [if_pos d]
         exact h _ _ (by omega) (by omega)
       · rw [if_neg d]
         exact h _ _ (by omega) (by omega)
structure Des (blt : α → α → Bool) (k : Nat → α) (ix : Nat → Nat) (m q : Nat) : Prop where
 le : q + 1 ≤ m
 up : ∀ i j, i < j → j < m → i + (q + 1) < m → Rk blt k (ix j) (ix i)
 far : ∀ i j, i + (q + 1) < m → m ≤ j + (q + 1) → j < m → blt (k (ix j)) (k (ix i)) = true
 al : ∀ i j, m ≤ i + (q + 1) → i < j → j < m → blt (k (ix i)) (k (ix j)) = false ∧ blt (k (ix j)) (k (ix i)) = false ∧ ix i < ix j
theorem Des.turn {ix : Nat → Nat} {m q : Nat} (h : Des blt k ix m q) : Dn blt k (mixF ix (m - (q + 1)) m) m := by
 intro i j hij hj
 have := h.le
 unfold mixF
 by_cases a : m - (q + 1) ≤ i ∧ i < m
 · rw [if_pos a, if_pos (by omega)]
   obtain ⟨h1, h2, h3⟩ := h.al (m - (q + 1) + m - 1 - j) (m - (q + 1) + m - 1 - i) (by omega) (by omega) (by omega)
   exact .inr ⟨h2, h3⟩
 · rw [if_neg a]
   by_cases b : m - (q + 1) ≤ j ∧ j < m
   · rw [if_pos b]
     exact h.up _ _ (by omega) (by omega) (by omega)
   · rw [if_neg b]
     exact h.up _ _ hij hj (by omega)
theorem Des.dn {ix : Nat → Nat} {m : Nat} (h : Des blt k ix m 0) : Dn blt k ix m := fun i j hij hj => h.up i j hij hj (by omega)
theorem des_one {ix : Nat → Nat} (W : WO blt) {m : Nat} (h : Dn blt k ix m) (hm : 0 < m) (n : blt (k (ix m)) (k (ix (m - 1))) = true) : Des blt k ix (m + 1) 0 := by
 have hb : ∀ i, i < m → blt (k (ix m)) (k (ix i)) = true := fun i hi => by
   by_cases e : i = m - 1
   · subst e; exact n
   · exact lt_of_le W n ((h i (m - 1) (by omega) (by omega)).le W)
 refine ⟨by omega, fun i j hij hj _ => ?_, fun i j h1 h2 h3 => ?_, fun i j h1 h2 h3 => by omega⟩
 · by_cases e : j < m
   · exact h i j hij e
   · have : j = m := by omega
     subst this
     exact .inl (hb i hij)
 · have : j = m := by omega
   subst this
   exact hb i (by omega)
theorem des_al {ix : Nat → Nat} (W : WO blt) {m q : Nat} (h : Des blt k ix m q) (p : Pre ix m) (n1 : blt (k (ix m)) (k (ix (m - 1))) = false) (n2 : blt (k (ix (m - 1))) (k (ix m)) = false) : Des blt k ix (m + 1) (q + 1) := by
 have hl := h.le
 have em := p.id m (Nat.le_refl _)
 have key : ∀ i, m ≤ i + (q + 1) → i < m → blt (k (ix i)) (k (ix m)) = false ∧ blt (k (ix m)) (k (ix i)) = false := fun i h1 h2 => by
   by_cases e : i = m - 1
   · subst e; exact ⟨n2, n1⟩
   · obtain ⟨a, b, _⟩ := h.al i (m - 1) h1 (by omega) (by omega)
     exact ⟨le_le W n2 a, le_le W b n1⟩
 refine ⟨by omega, fun i j hij hj hi => ?_, fun i j h1 h2 h3 => ?_, fun i j h1 h2 h3 => ?_⟩
 · by_cases e : j < m
   · exact h.up i j hij e (by omega)
   · have : j = m := by omega
     subst this
     exact .inl (le_lt W n2 (h.far i (j - 1) (by omega) (by omega) (by omega)))
 · by_cases e : j < m
   · exact h.far i j (by omega) (by omega) e
   · have : j = m := by omega
     subst this
     exact le_lt W n2 (h.far i (j - 1) (by omega) (by omega) (by omega))
 · by_cases e : j < m
   · exact h.al i j (by omega) h2 e
   · have : j = m := by omega
     subst this
     obtain ⟨a, b⟩ := key i (by omega) h2
     refine ⟨a, b, ?_⟩
     rw [em]
     exact p.lt i h2
structure Bij (ix : Nat → Nat) (n : Nat) : Prop where
 lt : ∀ i, i < n → ix i < n
 inj : ∀ i j, i < n → j < n → ix i = ix j → i = j
 sur : ∀ p, p < n → ∃ i, i < n ∧ ix i = p
theorem Bij.idf {n : Nat} : Bij (fun i => i) n := ⟨fun _ h => h, fun _ _ _ _ e => e, fun p h => ⟨p, h, rfl⟩⟩
theorem Bij.comp {ix f : Nat → Nat} {n : Nat} (h : Bij ix n) (g : Bij f n) : Bij (fun p => ix (f p)) n :=
 ⟨fun i hi => h.lt _ (g.lt i hi), fun i j hi hj e => g.inj i j hi hj (h.inj _ _ (g.lt i hi) (g.lt j hj) e), fun p hp => by
   obtain ⟨i, hi, e⟩ := h.sur p hp
   obtain ⟨j, hj, e'⟩ := g.sur i hi
   exact ⟨j, hj, by rw [e', e]⟩⟩
theorem Bij.of {f g : Nat → Nat} {n : Nat} (a : ∀ i, i < n → f i < n) (b : ∀ i, i < n → g i < n) (c : ∀ i, i < n → g (f i) = i) (d : ∀ i, i < n → f (g i) = i) : Bij f n :=
 ⟨a, fun i j hi hj e => by rw [← c i hi, e, c j hj], fun p hp => ⟨g p, b p hp, d p hp⟩⟩
def swF (i j p : Nat) : Nat := if i ≤ p ∧ p < j then i + j - 1 - p else p
def bbF (s l p : Nat) : Nat := if p = l then s else if l < p ∧ p ≤ s then p - 1 else p
def bbG (s l p : Nat) : Nat := if p = s then l else if l ≤ p ∧ p < s then p + 1 else p
theorem swF_lt {i j n p : Nat} (hj : j ≤ n) (hp : p < n) : swF i j p < n := by unfold swF; split <;> omega
theorem swF_sw (i j p : Nat) : swF i j (swF i j p) = p := by
 unfold swF
 by_cases a : i ≤ p ∧ p < j
 · rw [if_pos a, if_pos (by omega)]; omega
 · rw [if_neg a, if_neg a]
theorem Bij.mix {ix : Nat → Nat} {n i j : Nat} (h : Bij ix n) (hj : j ≤ n) : Bij (mixF ix i j) n := by
 have e : mixF ix i j = fun p => ix (swF i j p) := by
   funext p
   unfold mixF swF
   split <;> rfl
 rw [e]
 exact h.comp (.of (g := swF i j) (fun p hp => swF_lt hj hp) (fun p hp => swF_lt hj hp) (fun p _ => swF_sw i j p) fun p _ => swF_sw i j p)
theorem Bij.bub {ix : Nat → Nat} {n s l : Nat} (h : Bij ix n) (hs : s < n) (hl : l ≤ s) : Bij (bubF ix s l) n := by
 have e : bubF ix s l = fun p => ix (bbF s l p) := by
   funext p
   unfold bubF bbF
   split
   · rfl
   · split <;> rfl
 rw [e]
 refine h.comp (.of (g := bbG s l) (fun p hp => ?_) (fun p hp => ?_) (fun p hp => ?_) fun p hp => ?_)
 · unfold bbF; repeat' split
   all_goals omega
 · unfold bbG; repeat' split
   all_goals omega
 · unfold bbF bbG; repeat' split
   all_goals omega
 · unfold bbF bbG; repeat' split
   all_goals omega
end
end L6
namespace L6
open PySem PyProof.Rows
section
variable {prog : Program} {w : World} {A : Around} {E : Value → Shared → Prop} {s : Shared} {α : Type} {blt : α → α → Bool} {k : Nat → α} {a₀ : Array Keyed} {kd : SortKind} {ix : Nat → Nat} {st : SortSt}
def CmpOk (prog : Program) (w : World) (A : Around) (s : Shared) (kd : SortKind) (a₀ : Array Keyed) (blt : α → α → Bool) (k : Nat → α) : Prop :=
 ∀ (i j : Nat) (x p y q : Value) (E : Value → Shared → Prop) (Q : Bool → Shared → Prop), a₀[i]? = some (x, p) → a₀[j]? = some (y, q) → Q (blt (k i) (k j)) s → wpAny (model prog w) A (keyLt' kd x y) Q E s
structure Sb (a₀ : Array Keyed) (kd : SortKind) (ix : Nat → Nat) (st : SortSt) : Prop where
 sz : (arrOf st).size = a₀.size
 at_ : ∀ i, i < a₀.size → (arrOf st)[i]? = a₀[ix i]?
 bj : Bij ix a₀.size
 fa : failedOf st = none
 pe : pendingOf st = #[]
 ki : kindOf st = kd
end
end L6
namespace L6
open PySem PyProof.Rows
section
variable {prog : Program} {w : World} {A : Around} {E : Value → Shared → Prop} {s : Shared}
structure Ord {α : Type} (blt : α → α → Bool) (k : Nat → α) (n : Nat) (ix : Nat → Nat) : Prop where
 bj : Bij ix n
 up : Up blt k ix n
def pickV (vs : List Value) (ix : Nat → Nat) : List Value := (List.range vs.length).map fun i => vs.getD (ix i) .none
structure KeysOk {α : Type} (prog : Program) (w : World) (A : Around) (s : Shared) (ks vs : List Value) (blt : α → α → Bool) (k : Nat → α) : Prop where
 wo : WO blt
 kd : 2 ≤ vs.length → ∃ kd : SortKind, (∀ (E : Value → Shared → Prop) (Q : SortKind → Shared → Prop), Q kd s → wpAny (model prog w) A (keyKind' ks.toArray) Q E s) ∧ CmpOk prog w A s kd (ks.toArray.zip vs.toArray) blt k
theorem zip_at {ks vs : List Value} (hl : ks.length = vs.length) {i : Nat} {p : Keyed} (h : (ks.toArray.zip vs.toArray)[i]? = some p) : ks[i]? = some p.1 ∧ vs[i]? = some p.2 := by
 have : (ks.zip vs)[i]? = some p := by
   have e : ks.toArray.zip vs.toArray = (ks.zip vs).toArray := by simp
   rw [e] at h
   simpa using h
 rw [List.getElem?_zip_eq_some] at this
 exact this
theorem pick_at {vs : List Value} {ks : List Value} (hl : ks.length = vs.length) {ix : Nat → Nat} (bj : Bij ix vs.length) {arr : Array Keyed} (hz : arr.size = vs.length) (h : ∀ i, i < vs.length → arr[i]? = (ks.toArray.zip vs.toArray)[ix i]?) : arr.map (·.2) = (pickV vs ix).toArray := by
 refine Array.ext (by simp [pickV, hz]) fun i h1 h2 => ?_
 have hi : i < vs.length := by simpa [pickV] using h2
 have hx := bj.lt i hi
 have h3 := h i hi
 obtain ⟨p, hp⟩ : ∃ p, arr[i]? = some p := ⟨_, Array.getElem?_eq_getElem (by omega)⟩
 have h4 := (zip_at hl (h3.symm.trans hp)).2
 have e1 : (arr.map (·.2))[i]? = some p.2 := by simp [hp]
 have e2 : (pickV vs ix).toArray[i]? = some p.2 := by
   simp only [pickV, List.getElem?_toArray, List.getElem?_map, List.getElem?_range hi, Option.map_some]
   rw [List.getD_eq_getElem?_getD, h4]
   rfl
 rw [Array.getElem?_eq_getElem h1] at e1
 rw [Array.getElem?_eq_getElem h2] at e2
 exact Option.some.inj (e1.trans e2.symm)
end
end L6
namespace L6
theorem perm_of_mem {α : Type} [BEq α] [LawfulBEq α] {l m : List α} (h : l.Nodup) (h' : m.Nodup) (e : ∀ x, x ∈ l ↔ x ∈ m) : l.Perm m := by
 rw [List.perm_iff_count]
 intro a
 rw [h.count, h'.count]
 by_cases z : a ∈ l
 · rw [if_pos z, if_pos ((e a).mp z)]
 · rw [if_neg z, if_neg fun q => z ((e a).mpr q)]
end L6
namespace L6
open PySem PyProof.Rows PySem.W
theorem wo_txt : WO (fun a b : List Nat => decide (a < b)) := by
 refine ⟨fun a => by simp [List.lt_irrefl], fun a b c h h' => ?_, fun a b c h => ?_⟩
 · simp only [decide_eq_true_eq] at *; exact List.lt_trans h h'
 · simp only [decide_eq_true_eq] at *
   by_cases z : a < b
   · exact .inl z
   · exact .inr (List.lt_of_le_of_lt (List.not_lt.mp z) h)
section
variable {prog : Program} {w : World} {A : Around} {s : Shared} {ks vs : List Value}
theorem keys_txt {xs : List Str} (hl : ks.length = vs.length) (hk : ∀ (i : Nat) v, ks[i]? = some v → ∃ t, v = .str (xs.getD i Str.empty) t) : KeysOk prog w A s ks vs (fun a b : List Nat => decide (a < b)) (fun i => (xs.getD i Str.empty).cps.toList) := by
 refine ⟨wo_txt, fun h2 => ⟨oneType', fun E Q q => ?_, fun i j x p y q E Q hi hj h => ?_⟩⟩
 · refine kas_kind (T := .type "str") (by omega) (fun v hv => ?_) (by rfl) (by rfl) q
   obtain ⟨i, hi⟩ := List.mem_iff_getElem?.mp hv
   obtain ⟨t, rfl⟩ := hk i v hi
   exact .now
 · obtain ⟨t, rfl⟩ := hk i x (zip_at hl hi).1
   obtain ⟨u, rfl⟩ := hk j y (zip_at hl hj).1
   exact kas_lt_str h
end
end L6
namespace L3
open PySem PySem.Spec
open PyProof.Rows hiding St
open L2
section
variable {K : PySem.W.Frag} {O : Ob}
def unpT (is : List Nat) (f : DE) : DS := fun Dd ρ => f ρ fun r => ∃ ds, r.d = .tuple ds ∧ flats ds = true ∧ gTD is ds ρ Dd.nx
theorem sd_unpT {is : List Nat} {n : Nat} {t : TE} {tg : TGs} {f : DE} (hn : is.length = n) (h : ED K O t f) (hg : GRs K O tg is) : SD K O (tAsg t (gTup K n tg)) (unpT is f) := fun H₀ A σ H ρ D Dd r q P => by
 refine h σ H ρ _ _ r.seen q fun v H1 x s1 o1 ⟨ds, e, fl, q1⟩ => ?_
 have r1 := r.stp s1
 have iw := o1.is r.ok r.p
 rw [e] at iw
 cases iw with
 | tuple h1 s2 =>
   refine ⟨_, _, rfl, h1, by rw [s2.length, gTD_len q1]; exact hn, ?_⟩
   exact hg H₀ A σ H1 ρ _ ds _ _ r1 fl (IsAll.flats (TupStay.refl H1) s2 fl) q1 fun A' σ' ρ' r' f' q' => P.nx A' σ' H1 ρ' r' ((Frm.stp s1).trans f') q'
end
section
variable {ι κ : Type} {P : Program} {w : World} {K : PySem.W.Frag} {mg : Str → Option Value} {base : Heap} {k : Nat} {X : ι → Cx} {O : κ → Ob} {a b c : Expr} {fa fb : DE} {pos p : Pos} {es : List Expr} {ga : DA}
theorem s_unpT {h n : Nat} {es : List Expr} {is : List Nat} {j : Nat} {tp : Pos} (C : Ctx3 P w K mg base k X) (ha : E3 K X O a fa) (hr : Gs3 K X h es is) (hn : is.length = n := by rfl) (hn2 : ∀ i, (assignEach es (X i).env).length = n := by intro i; rfl) (hst : ∀ i, (assignEach es (X i).env).findIdx? (·.1) = none := by intro i; rfl)
   (hs : ∀ i, swapsWithSole [.Tuple es j tp] a pos.line (X i).env = pure false := by intro i; rfl) (hw : ∀ i, swappedStores [.Tuple es j tp] a (X i).env = pure none := by intro i; rfl) (h1 : ∀ i, (assignEach [.Tuple es j tp] (X i).env).map (·.2) = [assign (.Tuple es j tp) (X i).env] := by intro i; rfl) :
   S3 K X O (.Assign [.Tuple es j tp] a pos) (unpT is fa) := let ⟨_, p, d1, d2, o, m⟩ := hr; let ⟨_, q, d⟩ := ha;
 ⟨tAsg _ (gTup K n _), fun i => by have z := pg_tup (pos := tp) (k := j) (C.calm i) (p i) (hn2 i) (hst i); rw [C.hK] at z; exact ps_asg (q i) z (hs i) (hw i) (h1 i), fun jj => sd_unpT hn (d jj) (d2 (O jj))⟩
end
end L3
namespace SX
open PySem PySem.Spec PyProof.Rows
abbrev Es := Array (Int × Value)
def keyE (e : Int × Value) : Str := strOf e.2
def keys (es : Es) : List Str := es.toList.map keyE
def byT (w : World) : Bool := w.params.followText "set-order"
structure Sx (w : World) (h : Heap) (a : Addr) (es : Es) (ep : Nat) (t : SetTable) : Prop where
 at_ : ∃ o, h.get? a = some o ∧ o.ExactSet ∧ o.data = .set es ep t
 lt : es.size < scanBound
 fit : t.fits es.size = true
 led : t.led = !byT w
 pl : 1 < es.size → t.plain = false
structure Tx (P : Program) (w : World) (h : Heap) (a : Addr) (es : Es) (ep : Nat) (t : SetTable) : Prop extends Sx w h a es ep t where
 el : ElemsOf (PySem.strKind P w) es.toList
 nd : (keys es).Nodup
theorem led_new (t : SetTable) (es : Es) (h : Int) (x : Value) : (layNew t es h x).2.1.led = t.led := by
 unfold layNew
 cases t.freeSlot h with
 | none => rfl
 | some p =>
   obtain ⟨j, d⟩ := p
   show ((t.put j).1.orStandIn _).led = t.led
   unfold SetTable.orStandIn
   split <;> rfl
theorem led_all (t : SetTable) (es : Es) (n : Nat) : (relayAll t es n).2.1.led = t.led ∧ (t.plain = false → (relayAll t es n).2.1.plain = false) := by
 unfold relayAll
 cases e : t.relaid (es.map (·.1)) n with
 | none => exact ⟨rfl, fun _ => rfl⟩
 | some p =>
   obtain ⟨t', ord⟩ := p
   have : t'.led = t.led ∧ t'.plain = t.plain := by
     unfold SetTable.relaid SetTable.laid at e
     cases q : SetTable.layClean (SetTable.sizeAbove n - 1) (es.map (·.1)) with
     | none => rw [q] at e; cases e
     | some o => rw [q] at e; cases e; exact ⟨rfl, rfl⟩
   dsimp only
   split
   · exact ⟨this.1, fun h => this.2.trans h⟩
   · exact ⟨rfl, fun _ => rfl⟩
section
variable {P : Program} {w : World} {A : Around} {E : Value → Shared → Prop} {s : Shared}
theorem key_is {e : Int × Value} (h : ∃ k, (PySem.strKind P w).is k e.2 = true ∧ e.1 = (PySem.strKind P w).hash k) (k : Str) : (PySem.strKind P w).is k e.2 = true ↔ keyE e = k := by
 obtain ⟨k', hk, _⟩ := h
 obtain ⟨i, v⟩ := e
 obtain ⟨t, ev⟩ := Value.isStrOf_shape hk
 subst ev
 show Value.isStrOf k (.str k' t) = true ↔ k' = k
 constructor
 · intro h
   exact (PySem.strKind P w).inj (.str k' t) _ _ hk h
 · rintro rfl
   exact hk
theorem Tx.put {a : Addr} {es es' : Es} {ep : Nat} {t t' : SetTable} (S : Tx P w s.heap a es ep t) (el : ElemsOf (PySem.strKind P w) es'.toList) (nd : (keys es').Nodup) (lt : es'.size < scanBound) (fit : t'.fits es'.size = true) (led : t'.led = !byT w) (pl : t'.plain = false)
   {Q : Unit → Shared → Prop} (h : ∀ h', Heap.SameBut a s.heap h' → Tx P w h' a es' (ep + 1) t' → Q () { s with heap := h' }) : wpAny (model P w) A (storeSet a es' t') Q E s := by
 obtain ⟨o, ho, hx, hd⟩ := S.at_
 refine wpAny_storeSet_of ho hd (h _ (.update ..) ⟨⟨⟨{ o with data := .set es' (ep + 1) t' }, ?_, hx, rfl⟩, lt, fit, led, fun _ => pl⟩, el, nd⟩) (fits_of_scanBound lt)
 have := Heap.get?_update_self (Obj.putSet es' t') ho (by rw [putSet_of es' t' hd]; rfl)
 rw [putSet_of es' t' hd] at this
 exact this
theorem size_perm {es es' : Es} (p : es'.toList.Perm es.toList) : es'.size = es.size := by simpa using p.length_eq
theorem keys_perm {es es' : Es} (p : es'.toList.Perm es.toList) : (keys es').Perm (keys es) := p.map _
theorem Tx.add {a : Addr} {es : Es} {ep : Nat} {t : SetTable} {x : Str} {tk : Tok} {Q : Bool → Shared → Prop} (S : Tx P w s.heap a es ep t) (hr : es.size + 1 < scanBound)
   (h : ∀ b h' es' ep' t', Heap.SameBut a s.heap h' → Tx P w h' a es' ep' t' → (∀ k, k ∈ keys es' ↔ k ∈ keys es ∨ k = x) → es'.size ≤ es.size + 1 → Q b { s with heap := h' }) :
   wpAny (model P w) A (setAddHashed a (.str x tk) (hashStr w x)) Q E s := by
 have hk : (PySem.strKind P w).is x (.str x tk) = true := by show Value.isStrOf x (.str x tk) = true; simp [Value.isStrOf]
 obtain ⟨o, ho, hx, hd⟩ := S.at_
 have gw : ∀ (b : Bool) (s₁ : Shared) (Q' : Unit → Shared → Prop), Q' () s₁ → wpAny (model P w) A (match b with | true => rule "set.scan.the-table-gave-way" | false => pure ()) Q' E s₁ := fun b s₁ Q' q => by
   cases b
   · exact wpAny_pure q
   · exact wpAny_rule q
 unfold setAddHashed setAddHashedIn
 refine wpAny_holding (wpAny_bind (wpAny_setState_of ho hd S.fit ?_))
 dsimp only
 rw [if_pos (byScan_of rfl S.lt S.el)]
 unfold setAddByScan
 refine wpAny_bind (wpAny_bind (wpAny_rule (wpAny_bind (wpAny_setScan_of (knd := PySem.strKind P w) hk ho hd S.fit S.el ?_))))
 cases hf : es.toList.findIdx? (fun e => (PySem.strKind P w).is x e.2) with
 | some j =>
   obtain ⟨hj, hp, _⟩ := List.findIdx?_eq_some_iff_getElem.mp hf
   have hm : x ∈ keys es := List.mem_map.mpr ⟨_, List.getElem_mem hj, (key_is (S.el _ (List.getElem_mem hj)).1 x).mp hp⟩
   refine wpAny_pure (wpAny_pure ?_)
   exact h false s.heap es ep t (.refl ..) S (fun k => ⟨.inl, fun z => z.elim id fun z => z ▸ hm⟩) (Nat.le_succ _)
 | none =>
   have hm : x ∉ keys es := fun hm => by
     obtain ⟨e, he, hk'⟩ := List.mem_map.mp hm
     have := List.findIdx?_eq_none_iff.mp hf e he
     rw [(key_is (S.el e he).1 x).mpr hk'] at this
     cases this
   have hp := layNew_perm t es (hashStr w x) (.str x tk)
   have hfit := layNew_fits t es (hashStr w x) (.str x tk)
   have hled := led_new t es (hashStr w x) (.str x tk)
   generalize layNew t es (hashStr w x) (Value.str x tk) = L at hp hfit hled ⊢
   obtain ⟨e1, t1, wd, gv⟩ := L
   dsimp only at hp hfit hled ⊢
   rw [Array.toList_push] at hp
   have el1 : ElemsOf (PySem.strKind P w) e1.toList := (S.el.push (k := x) (x := .str x tk) hk rfl).perm hp
   have kp : (keys e1).Perm (keys es ++ [x]) := by
     have := hp.map keyE
     rw [List.map_append] at this
     exact this
   have nd1 : (keys e1).Nodup := kp.nodup_iff.mpr (List.nodup_append.mpr ⟨S.nd, (by simp), fun a ha b hb => by
     rw [List.mem_singleton] at hb
     subst hb
     exact fun z => hm (z ▸ ha)⟩)
   have mem1 : ∀ k, k ∈ keys e1 ↔ k ∈ keys es ∨ k = x := fun k => by rw [kp.mem_iff, List.mem_append, List.mem_singleton]
   have sz1 : e1.size = es.size + 1 := by simpa using hp.length_eq
   have lt1 : e1.size < scanBound := by omega
   refine wpAny_bind (gw _ _ _ ?_)
   have fin : ∀ t2 : SetTable, t2.fits e1.size = true → t2.led = t.led → t2.plain = false → wpAny (model P w) A (do
       storeSet a e1 t2
       if (!wd && t2.tooFull) = true then do
           (match (relayAll t2 e1 (SetTable.grown e1.size)).2.2 with | true => rule "set.scan.the-table-gave-way" | false => pure ())
           storeSet a (relayAll t2 e1 (SetTable.grown e1.size)).1 (relayAll t2 e1 (SetTable.grown e1.size)).2.1
           pure (some true)
         else pure (some true)) (fun r s₁ => wpAny (model P w) A (match r with | some b => pure b | none => setAddHashedIn a (.str x tk) (hashStr w x) 99999) Q E s₁) E s := fun t2 f2 l2 p2 => by
     refine wpAny_bind (S.put el1 nd1 lt1 f2 (l2.trans S.led) p2 fun h1 sb1 S1 => ?_)
     cases hw : (!wd && t2.tooFull) with
     | false => exact wpAny_pure (wpAny_pure (h true h1 e1 _ t2 sb1 S1 mem1 (Nat.le_of_eq sz1)))
     | true =>
       have rp := relayAll_perm t2 e1 (SetTable.grown e1.size)
       have rf := relayAll_fits t2 e1 (SetTable.grown e1.size)
       have rl := led_all t2 e1 (SetTable.grown e1.size)
       generalize relayAll t2 e1 (SetTable.grown e1.size) = R at rp rf rl ⊢
       obtain ⟨e2, t3, g2⟩ := R
       dsimp only at rp rf rl ⊢
       refine wpAny_bind (gw _ _ _ ?_)
       have z2 := size_perm rp
       refine wpAny_bind (S1.put (s := { s with heap := h1 }) (el1.perm rp) ((keys_perm rp).nodup_iff.mpr nd1) (by omega) rf (rl.1.trans (l2.trans S.led)) (rl.2 p2) fun h2 sb2 S2 => ?_)
       exact wpAny_pure (wpAny_pure (h true h2 e2 _ t3 (sb1.trans sb2) S2 (fun k => by rw [(keys_perm rp).mem_iff]; exact mem1 k) (by omega)))
   split
   · rename_i hpl
     refine wpAny_bind ?_
     rw [hashByValue_scannable 8 (x := .str x tk) rfl]
     refine wpAny_pure ?_
     exact fin { t1 with plain := false } (SetTable.fits_plain_off hfit) hled rfl
   · rename_i hpl
     refine wpAny_bind (wpAny_pure ?_)
     exact fin t1 hfit hled (by simpa using hpl)
end
end SX
namespace SX
open PySem PySem.Spec PyProof.Rows
section
variable {P : Program} {w : World} {A : Around} {R : Result → Shared → Prop} {I : Addr} {fp wr : List Addr} {G : Array GenState → Array GenState → Prop} {n : Nat} {Pv : Nat → Value → Prop} {St : Nat → Shared → Prop}
theorem Sx.keep {h h' : Heap} {a : Addr} {es : Es} {ep : Nat} {t : SetTable} (S : Sx w h a es ep t) (k : ∀ o, h.get? a = some o → h'.get? a = some o) : Sx w h' a es ep t :=
 { S with at_ := let ⟨o, e, r⟩ := S.at_; ⟨o, k o e, r⟩ }
theorem Tx.keep {h h' : Heap} {a : Addr} {es : Es} {ep : Nat} {t : SetTable} (S : Tx P w h a es ep t) (k : ∀ o, h.get? a = some o → h'.get? a = some o) : Tx P w h' a es ep t :=
 ⟨S.toSx.keep k, S.el, S.nd⟩
theorem loop_tx (W : WalksS P w A.in1 I fp wr G n Pv St) (S : Addr) (hS : S ∉ fp) (val : Nat → Str) (hval : ∀ i v, Pv i v → ∃ t, v = .str (val i) t) (hb : n + 1 < scanBound) :
   ∀ (m i : Nat) (s : Shared) (es : Es) (ep : Nat) (t : SetTable), n - i = m → i ≤ n → St i s → Tx P w s.heap S es ep t → (∀ x, x ∈ keys es ↔ ∃ j, j < i ∧ val j = x) → es.size ≤ i →
     (∀ s' es' ep' t', Moved (S :: wr) G s s' → Tx P w s'.heap S es' ep' t' → (∀ x, x ∈ keys es' ↔ ∃ j, j < n ∧ val j = x) → R (.ok (.ret .none)) s') →
     codeAny (model P w) A (.builtin "set.update.loop" ⟨[.ref S, .ref I], []⟩) R s := by
 have nw : S ∉ wr := fun z => hS (W.sub _ z)
 have up : ∀ b ∈ wr, b ∈ S :: wr := fun b z => List.mem_cons_of_mem _ z
 intro m
 induction m with
 | zero =>
   intro i s es ep t hm hi st T hk _ k
   obtain rfl : i = n := by omega
   refine codeAny_builtin F.entry_set_update_loop ?_
   rw [Around.under_plainId F.plain_set_update_loop _]
   refine wpAny_bind (W.done s _ _ st fun s' mv => wpAny_pure ?_)
   exact k s' es ep t (mv.mono up) (T.keep fun o e => mv.heap S o nw e) hk
 | succ m ih =>
   intro i s es ep t hm hi st T hk hz k
   have hlt : i < n := by omega
   refine codeAny_builtin F.entry_set_update_loop ?_
   rw [Around.under_plainId F.plain_set_update_loop _]
   refine wpAny_bind (W.item i s _ _ hlt st fun v s' pv st' mv => ?_)
   obtain ⟨tk, rfl⟩ := hval i v pv
   have T1 : Tx P w s'.heap S es ep t := T.keep fun o e => mv.heap S o nw e
   refine wpAny_bind (m := holding [Value.str (val i) tk] (setAdd S (.str (val i) tk))) (wpAny_holding ?_)
   unfold setAdd
   refine wpAny_holding (wpAny_bind ((PySem.strKind P w).pyHash (k := val i) (by show Value.isStrOf (val i) (.str (val i) tk) = true; simp [Value.isStrOf]) ?_))
   refine Tx.add (s := { s' with toks := s'.toks + 1 }) (x := val i) T1 (by omega) fun b h' es' ep' t' sb T2 hk' hz' => ?_
   refine wpAny_pure ⟨plainId_quiet F.plain_set_update_loop _, ih (i + 1) _ es' ep' t' (by omega) hlt (W.frame _ s' _ _ st' (Nat.le_succ _) fun b hb o e => ?_) T2 (fun x => ?_) (by omega) fun s'' e2 p2 t2 mv2 T3 hk3 => ?_⟩
   · rw [sb.2 b (fun z : b = S => hS (z ▸ hb))]
     exact e
   · rw [hk', hk]
     constructor
     · rintro (⟨j, h1, h2⟩ | rfl)
       · exact ⟨j, by omega, h2⟩
       · exact ⟨i, by omega, rfl⟩
     · rintro ⟨j, h1, h2⟩
       by_cases hj : j = i
       · subst hj
         exact .inr h2.symm
       · exact .inl ⟨j, by omega, h2⟩
   · refine k s'' e2 p2 t2 (.trans W.gtrans ((mv.mono up).then_heap (Nat.le_succ _) fun b o hb e => ?_) mv2) T3 hk3
     rw [sb.2 b (fun z : b = S => hb (z ▸ List.mem_cons_self))]
     exact e
end
section
variable {P : Program} {w : World} {A : Around} {E : Value → Shared → Prop} {s : Shared}
abbrev eObj (w : World) : Obj := { cls := .type "set", dict := none, data := .set #[] 0 (.fresh 0 0 (!byT w)) }
theorem tx_nil {h : Heap} {a : Addr} (e : h.get? a = some (eObj w)) : Tx P w h a #[] 0 (.fresh 0 0 (!byT w)) :=
 ⟨⟨⟨_, e, ⟨rfl, rfl, rfl⟩, rfl⟩, by decide, rfl, rfl, fun z => absurd z (by decide)⟩, fun _ z => by simp at z, by simp [keys]⟩
theorem set_new (v : Value) {Q : Value → Shared → Prop} (h : Q (.ref s.heap.objs.size) { s with heap := s.heap.push (eObj w) }) :
   codeAny (model P w) A (.call (.builtin "set.__new__") ⟨[.type "set", v], []⟩) (wants Q E) s := by
 refine codeAny_of_tree ?_
 refine wpAny_bind (m := checkBuiltinCall "set.__new__" ⟨[.type "set", v], []⟩) (wpAny_of_eq (F.newCall_set_1 v) (wpAny_pure ⟨plainId_quiet F.plain_set_new _, codeAny_builtin F.entry_set_new ?_⟩))
 rw [Around.under_plainId F.plain_set_new _]
 unfold Builtin.«set.__new__» Builtin.Frozenset.newClass
 have hsub := sub_set_self
 obtain ⟨hp, g, d, tk, os⟩ := s
 dsimp only
 wp_walk
 refine wpAny_askSetting (wpAny_pure ?_)
 dsimp only
 simp only [newObj]
 refine wpAny_bind (wpAny_alloc (wpAny_pure ?_))
 exact wpAny_pure h
end
end SX
namespace SX
open PySem PySem.Spec PyProof.Rows
section
variable {P : Program} {w : World} {A : Around} {E : Value → Shared → Prop} {s : Shared}
abbrev Ext (h h' : Heap) : Prop := ∀ b o, h.get? b = some o → h'.get? b = some o
def Src (P : Program) (w : World) (h : Heap) (v : Value) (n : Nat) (Pv : Nat → Value → Prop) : Prop :=
 ∀ (A : Around) (E : Value → Shared → Prop) (s₁ : Shared) (Q : Value → Shared → Prop), A.handled = none → Ext h s₁.heap →
   (∀ I h' fp St, (∀ A' : Around, A'.handled = none → Walks P w A' I fp [I] n Pv St) → St 0 h' → Ext s₁.heap h' → (∀ b ∈ fp, b < h.objs.size ∨ s₁.heap.objs.size ≤ b) → s₁.heap.objs.size ≤ I → Q (.ref I) { s₁ with heap := h' }) →
   wpAny (model P w) A (pyIter v) Q E s₁
theorem call_setT {v : Value} {T : String} {n : Nat} {Pv : Nat → Value → Prop} {val : Nat → Str} {Q : Value → Shared → Prop} (hh : A.handled = none) (hT : ∀ s₁ : Shared, Ext s.heap s₁.heap → s₁.TypeIs v T)
   (h1 : isSubtype (.type T) (.type "set") = pure false) (h2 : isSubtype (.type T) (.type "frozenset") = pure false) (h3 : (Value.type T == Value.type "dict") = false) (src : Src P w s.heap v n Pv)
   (hval : ∀ i v, Pv i v → ∃ t, v = .str (val i) t) (hb : n + 1 < scanBound)
   (k : ∀ h' tk es ep t, Tx P w h' s.heap.objs.size es ep t → (∀ x, x ∈ keys es ↔ ∃ j, j < n ∧ val j = x) → Ext s.heap h' → Q (.ref s.heap.objs.size) { s with heap := h', toks := tk }) :
   wpAny (model P w) A (call (.type "set") [v]) Q E s := by
 obtain ⟨c, tl, hmro⟩ := F.called_set.mro
 have hmade := F.called_set.made
 have hsub := F.called_set.sub
 refine wpAny_call (codeAny_of_tree ?_)
 show wpAny _ _ (callAny (.type "set") _) _ _ _
 refine wpAny_pure ⟨Code.quiet_builtin _ (by decide +kernel), codeAny_builtin F.entry_type_call ?_⟩
 rw [Around.under_plain (weight_type_call_type "set" [v] []) rfl]
 have c1 := F.called_set.notType
 have c2 := F.called_set.canCreate
 have c3 := F.typeCall_set_1 v
 repeat (any_goals (first | assumption | wp_step))
 refine codeAny_mono (set_new v (E := E) (Q := fun r s₁ => r = .ref s.heap.objs.size ∧ s₁ = { s with heap := s.heap.push (eObj w) }) ⟨rfl, rfl⟩) fun r s₁ hr => ?_
 cases r with
 | error e => exact hr
 | ok fl =>
   cases fl with
   | ret obj =>
     obtain ⟨rfl, rfl⟩ := hr
     have eS : (s.heap.push (eObj w)).get? s.heap.objs.size = some (eObj w) := Heap.get?_push_size _ rfl
     have hS : Shared.TypeIs { s with heap := s.heap.push (eObj w) } (.ref s.heap.objs.size) "set" := ⟨_, eS, rfl⟩
     have c4 := F.called_set.init.lookup
     have c5 := F.called_set.init.bind (.ref s.heap.objs.size)
     repeat (any_goals (first | assumption | wp_step))
     refine codeAny_mono (codeAny_call_builtin (R := wants (fun r s₂ => r = .none ∧ ∃ h' tk es ep t, s₂ = { s with heap := h', toks := tk } ∧ Tx P w h' s.heap.objs.size es ep t ∧ (∀ x, x ∈ keys es ↔ ∃ j, j < n ∧ val j = x) ∧ Ext s.heap h') E) F.called_set.init.plain F.entry_set_init (check_set_init_1 hS ?_)) fun r₂ s₂ hr₂ => ?_
     · have e0 : Ext s.heap (s.heap.push (eObj w)) := fun b o e => Heap.get?_push_of_some _ e
       have hTv := hT { s with heap := s.heap.push (eObj w) } e0
       unfold Builtin.«set.__init__» noKeywords Builtin.Frozenset.updateFrom
       generalize hPI : pyIter = PI
       wp_walk
       subst hPI
       have lt0 : s.heap.objs.size < (s.heap.push (eObj w)).objs.size := by rw [Heap.size_push]; exact Nat.lt_succ_self _
       refine src _ _ _ _ (by simpa using hh) e0 fun I h' fp St W st ex fpb hI => ?_
       refine wpAny_bind (wpAny_runValue ?_)
       have nS : s.heap.objs.size ∉ fp := fun z => by
         rcases fpb _ z with y | y
         · exact Nat.lt_irrefl _ y
         · exact absurd lt0 (Nat.not_lt.mpr y)
       refine loop_tx (W _ (by simpa using hh)).toS s.heap.objs.size nS val hval hb n 0 _ #[] 0 _ rfl (Nat.zero_le _) st (tx_nil (ex _ _ eS)) (fun x => by simp [keys]) (Nat.le_refl _) fun s' es ep t mv T hk => ?_
       obtain ⟨h2, g2, d2, tk2, os2⟩ := s'
       obtain rfl : g2 = s.gens := mv.gens
       obtain rfl : d2 = s.drawn := mv.drawn
       obtain rfl : os2 = s.os := mv.os
       show wpAny _ _ _ _ _ _
       refine wpAny_pure (wpAny_pure ⟨rfl, h2, tk2, es, ep, t, rfl, T, hk, fun b o e => mv.heap b o (fun z => ?_) (ex b o (e0 b o e))⟩)
       have hbl := Heap.lt_size e
       rcases List.mem_cons.mp z with z | z
       · exact Nat.ne_of_lt hbl z
       · rw [List.mem_singleton.mp z] at hbl
         exact absurd hbl (Nat.not_lt.mpr (Nat.le_trans (Nat.le_of_lt lt0) hI))
     · cases r₂ with
       | error e => exact hr₂
       | ok fl₂ =>
         cases fl₂ with
         | ret r =>
           obtain ⟨rfl, h', tk, es, ep, t, rfl, T, hk, ex⟩ := hr₂
           repeat (any_goals (first | assumption | wp_step))
           exact k _ _ _ _ _ T hk ex
         | _ => exact hr₂.elim
   | _ => exact hr.elim
end
end SX
namespace SX
open PySem PySem.Spec PyProof.Rows
theorem nx_slot : Slot "set_iterator" "__next__" "set_iterator.__next__" := by
 refine Slot.of (owner := "set_iterator") (n := "__next__") ?_ (by decide +kernel) (by decide +kernel) (by decide +kernel) ?_ ?_
 · rw [typeLookup_type, builtinLookup_eq_fast]
   kernel_rfl
 · first
     | exact .inl (by decide +kernel)
     | exact .inr (by decide +kernel)
 · rw [isSubtype_type]
   kernel_rfl
theorem it_slot : Slot "set_iterator" "__iter__" "set_iterator.__iter__" := by
 refine Slot.of (owner := "set_iterator") (n := "__iter__") ?_ (by decide +kernel) (by decide +kernel) (by decide +kernel) ?_ ?_
 · rw [typeLookup_type, builtinLookup_eq_fast]
   kernel_rfl
 · first
     | exact .inl (by decide +kernel)
     | exact .inr (by decide +kernel)
 · rw [isSubtype_type]
   kernel_rfl
theorem nx_entry : entryFor table "set_iterator.__next__" = some Builtin.«set_iterator.__next__» := by
 refine entryFor_of_tree ?_
 kernel_rfl
theorem it_entry : entryFor table "set_iterator.__iter__" = some Builtin.«dict_keyiterator.__iter__» := by
 refine entryFor_alias (id' := "dict_keyiterator.__iter__") ?_ rfl ?_ ?_
 · kernel_rfl
 · decide +kernel
 · kernel_rfl
theorem set_iter_entry : entryFor table "set.__iter__" = some Builtin.«frozenset.__iter__» := by
 refine entryFor_alias (id' := "frozenset.__iter__") ?_ rfl ?_ ?_
 · kernel_rfl
 · decide +kernel
 · kernel_rfl
theorem owner_it : Manifest.owners.lookup (String.ofList ['r', 'o', 't', 'a', 'r', 'e', 't', 'i', '_', 't', 'e', 's'].reverse) = some Manifest.sig_set_iterator := by kernel_rfl
theorem nx_args (a : Value) : argsOk "set_iterator.__next__" ⟨[a], []⟩ := by
 unfold argsOk
 rw [signature?_of (id := "set_iterator.__next__") (n := ['_', '_', 't', 'x', 'e', 'n', '_', '_']) (o := ['r', 'o', 't', 'a', 'r', 'e', 't', 'i', '_', 't', 'e', 's']) (by kernel_rfl) owner_it]
 kernel_rfl
theorem it_args (a : Value) : argsOk "set_iterator.__iter__" ⟨[a], []⟩ := by
 unfold argsOk
 rw [signature?_of (id := "set_iterator.__iter__") (n := ['_', '_', 'r', 'e', 't', 'i', '_', '_']) (o := ['r', 'o', 't', 'a', 'r', 'e', 't', 'i', '_', 't', 'e', 's']) (by kernel_rfl) owner_it]
 kernel_rfl
theorem cons_erase {α : Type} : ∀ {l : List α} {i : Nat} (h : i < l.length), (l[i] :: l.eraseIdx i).Perm l
 | [], _, h => absurd h (Nat.not_lt_zero _)
 | x :: l, 0, _ => .refl _
 | x :: l, i + 1, h => (List.Perm.swap x _ _).trans ((cons_erase (l := l) (i := i) (Nat.lt_of_succ_lt_succ h)).cons x)
theorem pick_go {α : Type} (f : Nat → Nat) : ∀ (m k : Nat) (l : List α) (out : Array α), l.length = m → (pickOrder.go f m k l out).toList.Perm (out.toList ++ l)
 | 0, k, l, out, h => by
   obtain rfl : l = [] := by cases l with | nil => rfl | cons _ _ => simp at h
   simp [pickOrder.go]
 | m + 1, k, l, out, h => by
   have hi : f k % l.length < l.length := Nat.mod_lt _ (by omega)
   unfold pickOrder.go
   rw [List.getElem?_eq_getElem hi]
   refine (pick_go f m (k + 1) (l.eraseIdx (f k % l.length)) (out.push l[f k % l.length]) (by rw [List.length_eraseIdx]; simp [hi]; omega)).trans ?_
   rw [Array.toList_push, List.append_assoc]
   refine List.Perm.append_left _ ?_
   exact cons_erase hi
theorem pick_perm {α : Type} (f : Nat → Nat) (xs : Array α) : (pickOrder f xs).toList.Perm xs.toList := by
 simpa [pickOrder] using pick_go f xs.size 0 xs.toList #[] (by simp)
end SX
namespace SX
open PySem PySem.Spec PyProof.Rows
section
variable {P : Program} {w : World} {A : Around} {E : Value → Shared → Prop} {s : Shared} {α : Type}
theorem wp_choose {src : Source} {n : Nat} {Q : Nat → Shared → Prop} (hn : n ≠ 0) (h : ∀ i d, i < n → Q i { s with drawn := d }) : wpAny (model P w) A (choose src n) Q E s := fun Γ p _ =>
 ⟨hn, h _ _ (Nat.mod_lt _ (Nat.pos_of_ne_zero hn))⟩
theorem wp_draw : ∀ (m : Nat) (xs : List α) (s : Shared) (Q : List α → Shared → Prop), xs.length = m → (∀ ys d, ys.Perm xs → Q ys { s with drawn := d }) → wpAny (model P w) A (drawOrder m xs) Q E s
 | 0, xs, s, Q, e, h => by
   obtain rfl : xs = [] := List.length_eq_zero_iff.mp e
   exact wpAny_pure (h [] s.drawn .nil)
 | m + 1, [], s, Q, e, h => by cases e
 | m + 1, x :: xs, s, Q, e, h => by
   unfold drawOrder
   refine wpAny_bind (wp_choose (by simp) fun i d hi => ?_)
   rw [List.getElem?_eq_getElem hi]
   refine wpAny_bind (wp_draw m _ _ _ (by rw [List.length_eraseIdx, if_pos hi]; simpa using e) fun ys d2 hp => ?_)
   exact wpAny_pure (h _ d2 ((hp.cons _).trans (cons_erase hi)))
theorem wp_f {c : Prop} [Decidable c] {a b : Sem α} {Q : α → Shared → Prop} (hc : ¬ c) (h : wpAny (model P w) A b Q E s) : wpAny (model P w) A (if c then a else b) Q E s := by
 rw [if_neg hc]
 exact h
theorem wp_t {c : Prop} [Decidable c] {a b : Sem α} {Q : α → Shared → Prop} (hc : c) (h : wpAny (model P w) A a Q E s) : wpAny (model P w) A (if c then a else b) Q E s := by
 rw [if_pos hc]
 exact h
theorem wp_byT {Q : Bool → Shared → Prop} (h : Q (byT w) s) : wpAny (model P w) A setsByText Q E s := by
 unfold setsByText
 exact wpAny_bind (wpAny_askSetting (wpAny_pure h))
theorem Sx.state {a : Addr} {es : Es} {ep : Nat} {t : SetTable} {Q : (Es × Nat × SetTable) → Shared → Prop} (S : Sx w s.heap a es ep t) (h : Q (es, ep, t) s) : wpAny (model P w) A (setState a) Q E s :=
 let ⟨_, ho, _, hd⟩ := S.at_
 wpAny_setState_of ho hd S.fit h
theorem Sx.entries {a : Addr} {es : Es} {ep : Nat} {t : SetTable} {Q : Es → Shared → Prop} (S : Sx w s.heap a es ep t) (h : Q es s) : wpAny (model P w) A (setEntries a) Q E s :=
 let ⟨_, ho, _, hd⟩ := S.at_
 wpAny_setEntries_of ho hd S.fit h
theorem Sx.epoch {a : Addr} {es : Es} {ep : Nat} {t : SetTable} {Q : Nat → Shared → Prop} (S : Sx w s.heap a es ep t) (h : Q ep s) : wpAny (model P w) A (setEpoch a) Q E s :=
 let ⟨_, ho, _, hd⟩ := S.at_
 wpAny_setEpoch_of ho hd S.fit h
abbrev itO (first : Value) (i : Nat) (S : Addr) (n ep : Nat) : Obj := { cls := .type "set_iterator", dict := none, data := .fields #[first, .int i 0, .ref S, .int n 0, .int ep 0], slots := #[] }
theorem wp_stop {Z : α → Shared → Prop} {R : Option Value → Shared → Prop} (hh : A.handled = none) (h : ∀ h', Ext s.heap h' → R none { s with heap := h' }) :
   wpAny (model P w) A.in1 (do raiseNew (← newExc (.type "StopIteration") [])) Z (fun e s₁ => wpAny (model P w) A (do if ← isInstance e (.type "StopIteration") then pure none else throw e) R E s₁) s := by
 refine wpAny_bind ?_
 simp only [newExc, newTuple]
 refine wpAny_bind (wpAny_newObj_type ?_ (by size_fits))
 refine wpAny_bind (m := firstArgMember _ _) (wpAny_of_eq (a := Value.none) (by first | rfl | (simp only [firstArgMember]; rfl)) ?_)
 refine wpAny_newObj_type ?_ (by size_fits)
 simp only [raiseNew]
 refine wpAny_bind (wpAny_handled ?_)
 rw [show A.in1.handled = none from hh]
 refine wpAny_bind (wpAny_pure (wpAny_throw ?_))
 refine wpAny_bind (wpAny_isInstance (T := "StopIteration") (b := true) ⟨_, Heap.get?_push_size _ rfl, rfl⟩ isSubtype_stop ?_)
 exact wpAny_pure (h _ fun b o e => Heap.get?_push_of_some _ (Heap.get?_push_of_some _ e))
end
end SX
namespace SX
open PySem PySem.Spec PyProof.Rows
section
variable {P : Program} {w : World} {A : Around} {E : Value → Shared → Prop} {s : Shared} {it S : Addr} {es : Es} {ep : Nat} {t : SetTable}
theorem nxt_num {first : Value} {sl : Nat} {i : Nat} {R : Option Value → Shared → Prop} (hf : first = .int sl 0) (ho : s.heap.get? it = some (itO first i S es.size ep)) (T : Sx w s.heap S es ep t)
   (h : wpAny (model P w) A.in1 (setNext S sl i ep) (fun r s₁ => s₁ = s ∧ match r with
     | some (x, nx) => ∀ h', h'.get? it = some (itO (.int nx 0) (i + 1) S es.size ep) → Heap.SameBut it s.heap h' → R (some x) { s with heap := h' }
     | none => ∀ h', (∀ b o, b ≠ it → s.heap.get? b = some o → h'.get? b = some o) → R none { s with heap := h' }) (fun _ _ => False) s) (hh : A.handled = none) : wpAny (model P w) A (pyNext (.ref it)) R E s := by
 subst hf
 have hT : s.TypeIs (.ref it) "set_iterator" := ⟨_, ho, rfl⟩
 unfold pyNext
 refine wpAny_bind (wpAny_attempt (wpAny_callSpecial?_slot (name := Str.ofString "__next__") hT nx_slot (wpAny_call_entry nx_slot hT nx_entry ?_ (nx_args _))))
 unfold Builtin.«set_iterator.__next__»
 refine wpAny_bind (wpAny_pure ?_)
 refine wpAny_bind (wpAny_fieldsOf ho rfl ?_)
 refine wpAny_bind (T.entries ?_)
 refine wp_f (by simp) ?_
 refine wpAny_bind (wpAny_mono h (fun r s₁ q => ?_) fun _ _ z => z.elim)
 obtain ⟨rfl, q⟩ := q
 match r, q with
 | some (x, nx), q =>
   refine wpAny_bind (wpAny_setField_rec ho (by simp) fun h1 e1 b1 => ?_)
   refine wpAny_bind (wpAny_setField_rec (s := { s₁ with heap := h1 }) e1 (by simp) fun h2 e2 b2 => ?_)
   refine wpAny_pure ⟨x, rfl, wpAny_pure (q h2 ?_ (b1.trans b2))⟩
   exact e2
 | none, q =>
   refine wpAny_bind (wpAny_setField_rec ho (by simp) fun h1 e1 b1 => ?_)
   exact wp_stop (s := { s₁ with heap := h1 }) hh fun h' ex => q h' fun b o n e => ex b o ((b1.2 b n).trans e)
end
end SX
namespace SX
open PySem PySem.Spec PyProof.Rows
section
variable {P : Program} {w : World} {A : Around} {E : Value → Shared → Prop} {s : Shared} {it S : Addr} {es : Es} {ep : Nat} {t : SetTable}
theorem num_A {sl i : Nat} {Q : Option (Value × Nat) → Shared → Prop} (hb : byT w = true) (T : Sx w s.heap S es ep t) (h : Q (((pickOrder (w.params.setOrder S ep) es)[i]?).map fun e => (e.2, sl)) s) : wpAny (model P w) A (setNext S sl i ep) Q E s := by
 unfold setNext
 refine wpAny_bind (T.state ?_)
 refine wpAny_bind (wp_byT ?_)
 rw [hb]
 refine wp_t rfl ?_
 refine wp_f (by simp) ?_
 refine wpAny_bind ?_
 unfold setWalk
 refine wpAny_bind (T.state ?_)
 refine wpAny_bind (wp_byT ?_)
 rw [hb]
 refine wp_t rfl ?_
 exact wpAny_bind (wpAny_askSetting (wpAny_pure (wpAny_pure h)))
theorem num_C {sl i : Nat} {Q : Option (Value × Nat) → Shared → Prop} (hb : byT w = false) (hz : es.size ≤ 1) (T : Sx w s.heap S es ep t) (h : Q (match es[SetTable.below t.place sl]?, t.place[SetTable.below t.place sl]? with
   | some (_, x), some j => some (x, j + 1)
   | _, _ => none) s) : wpAny (model P w) A (setNext S sl i ep) Q E s := by
 unfold setNext
 refine wpAny_bind (T.state ?_)
 refine wpAny_bind (wp_byT ?_)
 rw [hb]
 refine wp_f (by decide) ?_
 refine wp_f (show ¬ ((!t.plain && decide (es.size > 1)) = true) by simp; omega) ?_
 refine wpAny_bind (m := if (!t.led && !es.isEmpty) = true then unsupported "set:maker-not-led" else pure ()) (wp_f (by rw [T.led, hb]; simp) (wpAny_pure ?_))
 exact wpAny_pure h
theorem nxt_tup {Tp : Addr} {pls : List Value} {c : Nat} {i : Nat} {R : Option Value → Shared → Prop} (ho : s.heap.get? it = some (itO (.ref Tp) i S es.size ep)) (hp : s.heap.get? Tp = some { cls := .type "tuple", data := .seq pls.toArray c }) (T : Sx w s.heap S es ep t)
   (h : match pls[i]? with
     | some v => ∃ (j : Nat) (e : Int × Value), v = .int j 0 ∧ es[j]? = some e ∧ ∀ h', h'.get? it = some (itO (.ref Tp) (i + 1) S es.size ep) → Heap.SameBut it s.heap h' → R (some e.2) { s with heap := h' }
     | none => ∀ h', (∀ b o, b ≠ it → s.heap.get? b = some o → h'.get? b = some o) → R none { s with heap := h' }) (hh : A.handled = none) : wpAny (model P w) A (pyNext (.ref it)) R E s := by
 have hT : s.TypeIs (.ref it) "set_iterator" := ⟨_, ho, rfl⟩
 unfold pyNext
 refine wpAny_bind (wpAny_attempt (wpAny_callSpecial?_slot (name := Str.ofString "__next__") hT nx_slot (wpAny_call_entry nx_slot hT nx_entry ?_ (nx_args _))))
 unfold Builtin.«set_iterator.__next__»
 refine wpAny_bind (wpAny_pure ?_)
 refine wpAny_bind (wpAny_fieldsOf ho rfl ?_)
 refine wpAny_bind (T.entries ?_)
 refine wp_f (by simp) ?_
 refine wpAny_bind (wpAny_seqItems hp rfl ?_)
 have ea : (pls.toArray)[(i : Int).toNat]? = pls[i]? := by simp
 dsimp only
 rw [ea]
 cases hv : pls[i]? with
 | some v =>
   rw [hv] at h
   obtain ⟨j, e, rfl, he, h⟩ := h
   dsimp only
   refine wpAny_bind ?_
   unfold setNextDrawn
   refine wpAny_bind (T.state ?_)
   refine wp_f (by simp) ?_
   have ej : es[(j : Int).toNat]? = some e := by simpa using he
   rw [ej]
   refine wpAny_pure ?_
   refine wpAny_bind (wpAny_setField_rec ho (by simp) fun h1 e1 b1 => ?_)
   exact wpAny_pure ⟨_, rfl, wpAny_pure (h h1 e1 b1)⟩
 | none =>
   rw [hv] at h
   dsimp only
   refine wpAny_bind (wpAny_setField_rec ho (by simp) fun h1 e1 b1 => ?_)
   refine wpAny_bind (wpAny_setField_rec (s := { s with heap := h1 }) e1 (by simp) fun h2 e2 b2 => ?_)
   exact wp_stop (s := { s with heap := h2 }) hh fun h' ex => h h' fun b o n e => ex b o ((b2.2 b n).trans ((b1.2 b n).trans e))
theorem it_self {first : Value} {i n : Nat} {Q : Value → Shared → Prop} (ho : s.heap.get? it = some (itO first i S n ep)) (h : Q (.ref it) s) : wpAny (model P w) A (pyIter (.ref it)) Q E s := by
 have hT : s.TypeIs (.ref it) "set_iterator" := ⟨_, ho, rfl⟩
 refine wpAny_pyIter_slot hT it_slot (wpAny_call_entry it_slot hT it_entry ?_ (it_args _))
 exact wpAny_pure ⟨_, rfl, "set_iterator", _, hT, nx_slot.lookup, h⟩
end
end SX
namespace SX
open PySem PySem.Spec PyProof.Rows
section
variable {P : Program} {w : World} {A : Around} {E : Value → Shared → Prop} {s : Shared} {it S : Addr} {es : Es} {ep : Nat} {t : SetTable}
def ordP (ord : List (Int × Value)) : Nat → Value → Prop := fun i v => ∃ e, ord[i]? = some e ∧ v = e.2
theorem walk_A (hh : A.handled = none) (hb : byT w = true) (ne : S ≠ it) :
   Walks P w A it [it, S] [it] (pickOrder (w.params.setOrder S ep) es).toList.length (ordP (pickOrder (w.params.setOrder S ep) es).toList) (fun i h => (∃ sl : Nat, h.get? it = some (itO (.int sl 0) i S es.size ep)) ∧ Sx w h S es ep t) where
 sub := fun b z => by simp at z; simp [z]
 frame := fun i h h' st k => ⟨let ⟨sl, e⟩ := st.1; ⟨sl, k it (by simp) _ e⟩, st.2.keep fun o e => k S (by simp) o e⟩
 item := fun i s Q E hi st k => by
   obtain ⟨⟨sl, ho⟩, T⟩ := st
   refine nxt_num rfl ho T (num_A hb T ⟨rfl, ?_⟩) hh
   have hx : (pickOrder (w.params.setOrder S ep) es)[i]? = some ((pickOrder (w.params.setOrder S ep) es).toList[i]) := by
     rw [← Array.getElem?_toList]
     exact List.getElem?_eq_getElem hi
   rw [hx]
   refine fun h' e' sb => k _ h' s.toks ⟨_, List.getElem?_eq_getElem hi, rfl⟩ ⟨⟨sl, e'⟩, T.keep fun o e => (sb.2 S ne).trans e⟩ fun b o nb e => (sb.2 b (by simpa using nb)).trans e
 done := fun s Q E st k => by
   obtain ⟨⟨sl, ho⟩, T⟩ := st
   refine nxt_num rfl ho T (num_A hb T ⟨rfl, ?_⟩) hh
   rw [show (pickOrder (w.params.setOrder S ep) es)[(pickOrder (w.params.setOrder S ep) es).toList.length]? = none by simp]
   exact fun h' kp => k h' s.toks fun b o nb e => kp b o (by simpa using nb) e
 self := fun i s Q E st h => it_self st.1.choose_spec h
theorem fm_map : ∀ {js : List Nat}, (∀ j ∈ js, j < es.size) → (js.filterMap fun j => es[j]?) = js.map fun j => es[j]?.getD (0, .none)
 | [], _ => rfl
 | j :: js, hj => by
   obtain ⟨e, h1⟩ : ∃ e, es[j]? = some e := ⟨_, Array.getElem?_eq_getElem (hj j (by simp))⟩
   rw [List.filterMap_cons_some h1, List.map_cons, h1, fm_map fun x z => hj x (List.mem_cons_of_mem _ z)]
   rfl
theorem walk_B {Tp : Addr} {ord : List (Int × Value)} {js : List Nat} (hh : A.handled = none) (ne : S ≠ it) (nt : Tp ≠ it) (ho : ord = js.filterMap fun j => es[j]?) (hj : ∀ j ∈ js, j < es.size) :
   Walks P w A it [it, S, Tp] [it] ord.length (ordP ord) (fun i h => h.get? it = some (itO (.ref Tp) i S es.size ep) ∧ Sx w h S es ep t ∧ h.get? Tp = some { cls := .type "tuple", data := .seq (js.map fun (j : Nat) => Value.int j 0).toArray }) where
 sub := fun b z => by simp at z; simp [z]
 frame := fun i h h' st k => ⟨k it (by simp) _ st.1, st.2.1.keep fun o e => k S (by simp) o e, k Tp (by simp) _ st.2.2⟩
 item := fun i s Q E hi st k => by
   obtain ⟨hi1, T, ht⟩ := st
   have el := ho.trans (fm_map hj)
   have hl : i < js.length := by rw [el] at hi; simpa using hi
   obtain ⟨e, h1⟩ : ∃ e, es[js[i]]? = some e := ⟨_, Array.getElem?_eq_getElem (hj _ (List.getElem_mem hl))⟩
   refine nxt_tup hi1 ht T ?_ hh
   rw [List.getElem?_map, List.getElem?_eq_getElem hl]
   refine ⟨js[i], _, rfl, h1, fun h' e' sb => k _ h' s.toks ⟨e, ?_, rfl⟩ ⟨e', T.keep fun o e => (sb.2 S ne).trans e, (sb.2 Tp nt).trans ht⟩ fun b o nb e => (sb.2 b (by simpa using nb)).trans e⟩
   rw [el, List.getElem?_map, List.getElem?_eq_getElem hl]
   show some (es[js[i]]?.getD (0, .none)) = _
   rw [h1]
   rfl
 done := fun s Q E st k => by
   obtain ⟨hi1, T, ht⟩ := st
   have el : ord.length = js.length := by rw [ho.trans (fm_map hj)]; simp
   refine nxt_tup hi1 ht T ?_ hh
   rw [List.getElem?_map, List.getElem?_eq_none (by omega)]
   exact fun h' kp => k h' s.toks fun b o nb e => kp b o (by simpa using nb) e
 self := fun i s Q E st h => it_self st.1 h
theorem below_one {p : Array Nat} {sl : Nat} (h : p.size = 1) : SetTable.below p sl = if p.getD 0 sl < sl then 1 else 0 := by
 unfold SetTable.below
 rw [h]
 unfold SetTable.below.go
 rw [if_pos (by omega)]
 show (if p.getD 0 sl < sl then SetTable.below.go p sl 0 1 1 else SetTable.below.go p sl 0 0 0) = _
 split <;> rfl
theorem walk_C (hh : A.handled = none) (hb : byT w = false) (hz : es.size ≤ 1) (ne : S ≠ it) :
   Walks P w A it [it, S] [it] es.toList.length (ordP es.toList) (fun i h => (∃ sl : Nat, (i = 0 → sl = 0) ∧ (i = 1 → ∃ j, t.place[0]? = some j ∧ sl = j + 1) ∧ h.get? it = some (itO (.int sl 0) i S es.size ep)) ∧ Sx w h S es ep t) where
 sub := fun b z => by simp at z; simp [z]
 frame := fun i h h' st k => ⟨let ⟨sl, e0, e1, e⟩ := st.1; ⟨sl, e0, e1, k it (by simp) _ e⟩, st.2.keep fun o e => k S (by simp) o e⟩
 item := fun i s Q E hi st k => by
   obtain ⟨⟨sl, h0, _, ho⟩, T⟩ := st
   have hi' : i < es.size := by simpa using hi
   obtain rfl : i = 0 := by omega
   obtain rfl := h0 rfl
   have f1 : t.place.size = 1 := by
     have := T.fit
     simp only [SetTable.fits, Bool.and_eq_true, beq_iff_eq] at this
     omega
   have hbel : SetTable.below t.place 0 = 0 := by rw [below_one f1, if_neg (Nat.not_lt_zero _)]
   refine nxt_num rfl ho T (num_C hb hz T ⟨rfl, ?_⟩) hh
   rw [hbel]
   have e1 : es[0]? = some es[0] := Array.getElem?_eq_getElem hi'
   have e2 : t.place[0]? = some t.place[0] := Array.getElem?_eq_getElem (by omega)
   rw [e1, e2]
   refine fun h' e' sb => k _ h' s.toks ⟨es[0], by rw [Array.getElem?_toList]; exact e1, rfl⟩ ⟨⟨t.place[0] + 1, fun z => by omega, fun _ => ⟨_, e2, rfl⟩, e'⟩, T.keep fun o e => (sb.2 S ne).trans e⟩ fun b o nb e => (sb.2 b (by simpa using nb)).trans e
 done := fun s Q E st k => by
   obtain ⟨⟨sl, _, h1, ho⟩, T⟩ := st
   have f1 : t.place.size = es.size := by
     have := T.fit
     simp only [SetTable.fits, Bool.and_eq_true, beq_iff_eq] at this
     omega
   refine nxt_num rfl ho T (num_C hb hz T ⟨rfl, ?_⟩) hh
   have none' : es[SetTable.below t.place sl]? = none := by
     by_cases h : es.size = 0
     · exact Array.getElem?_eq_none (by omega)
     · obtain ⟨j, e1, e2⟩ := h1 (by simp; omega)
       rw [below_one (by omega), Array.getD_eq_getD_getElem?, e1, e2]
       show es[if j < j + 1 then 1 else 0]? = none
       rw [if_pos (Nat.lt_succ_self _)]
       exact Array.getElem?_eq_none (by omega)
   rw [none']
   exact fun h' kp => k h' s.toks fun b o nb e => kp b o (by simpa using nb) e
 self := fun i s Q E st h => it_self st.1.choose_spec.2.2 h
end
end SX
namespace SX
open PySem PySem.Spec PyProof.Rows
section
variable {P : Program} {w : World} {A : Around} {E : Value → Shared → Prop} {s : Shared} {it S : Addr} {es : Es} {ep : Nat} {t : SetTable}
theorem Sx.typ (T : Sx w s.heap S es ep t) : s.TypeIs (.ref S) "set" := let ⟨_, ho, hx, _⟩ := T.at_; ⟨_, ho, hx.1⟩
theorem Sx.lts (T : Sx w s.heap S es ep t) : S < s.heap.objs.size := let ⟨_, ho, _⟩ := T.at_; Heap.lt_size ho
theorem wp_drawn {Q : Bool → Shared → Prop} (T : Sx w s.heap S es ep t) (h : Q (!byT w && decide (es.size > 1)) s) : wpAny (model P w) A (setDrawn S) Q E s := by
 unfold setDrawn
 refine wpAny_bind (T.state ?_)
 refine wpAny_bind (wp_byT ?_)
 have e : (!byT w && (!t.plain && decide (es.size > 1))) = (!byT w && decide (es.size > 1)) := by
   by_cases hz : 1 < es.size
   · rw [T.pl hz]; simp
   · simp [hz]
 refine wpAny_pure ?_
 show Q (!byT w && (!t.plain && decide (es.size > 1))) s
 rw [e]
 exact h
theorem iter_set {Q : Value → Shared → Prop} (T : Sx w s.heap S es ep t)
   (k : ∀ (it : Addr) (h' : Heap) (d' : Drawn) (ord : List (Int × Value)) (fp : List Addr) (St : Nat → Heap → Prop), ord.Perm es.toList → (∀ A' : Around, A'.handled = none → Walks P w A' it fp [it] ord.length (ordP ord) St) → St 0 h' → Ext s.heap h' → (∀ b ∈ fp, b < s.heap.objs.size → b = S) → (∀ b ∈ fp, b < h'.objs.size) → s.heap.objs.size ≤ it → it ∈ fp → Q (.ref it) { s with heap := h', drawn := d' }) :
   wpAny (model P w) A (pyIter (.ref S)) Q E s := by
 have hlt := T.lts
 refine wpAny_pyIter_slot T.typ F.slot_set_iter (wpAny_call_entry F.slot_set_iter T.typ set_iter_entry ?_ (F.args_set_iter_1 _))
 unfold Builtin.«frozenset.__iter__»
 refine wpAny_bind (m := Builtin.Frozenset.slot0 "__iter__" ⟨[.ref S], []⟩) (wpAny_pure ?_)
 refine wpAny_bind (wpAny_bind (T.entries (wpAny_pure ?_)))
 refine wpAny_bind (wp_drawn T ?_)
 have sz : ∀ (h : Heap) (o : Obj), (h.push o).objs.size = h.objs.size + 1 := fun h o => Heap.size_push ..
 cases hd : (!byT w && decide (es.size > 1)) with
 | true =>
   refine wp_t rfl ?_
   refine wpAny_bind (wp_draw es.size _ _ _ (by simp) fun js d hp => ?_)
   have hz : js.length ≤ sizeLine := by
     have := fits_of_scanBound T.lt
     rw [hp.length_eq, List.length_range]
     exact this
   refine wpAny_bind (wpAny_newTuple ?_ (by rw [List.length_map]; exact hz))
   have T1 : Sx w (s.heap.push { cls := .type "tuple", data := .seq (js.map fun (j : Nat) => rawInt j).toArray }) S es ep t := T.keep fun o e => Heap.get?_push_of_some _ e
   refine wpAny_bind (Sx.epoch (s := { s with heap := s.heap.push { cls := .type "tuple", data := .seq (js.map fun (j : Nat) => rawInt j).toArray }, drawn := d }) T1 ?_)
   refine wpAny_bind (wpAny_newObj_type (wpAny_pure ⟨_, rfl, "set_iterator", _, ⟨_, Heap.get?_push_size _ rfl, rfl⟩, nx_slot.lookup, ?_⟩))
   have hj : ∀ j ∈ js, j < es.size := fun j z => List.mem_range.mp (hp.mem_iff.mp z)
   refine k _ _ d (js.filterMap fun j => es[j]?) [(s.heap.push { cls := .type "tuple", data := .seq (js.map fun (j : Nat) => rawInt j).toArray }).objs.size, S, s.heap.objs.size] _ ?_ (fun A' hA => walk_B (t := t) (ep := ep) hA ?_ ?_ rfl hj) ⟨Heap.get?_push_size _ rfl, T1.keep fun o e => Heap.get?_push_of_some _ e, Heap.get?_push_of_some _ (Heap.get?_push_size _ rfl)⟩ (fun b o e => Heap.get?_push_of_some _ (Heap.get?_push_of_some _ e)) ?_ ?_ ?_ (by simp)
   · refine (hp.filterMap _).trans ?_
     rw [filterMap_getElem?_range]
   · rw [sz]; exact Nat.ne_of_lt (Nat.lt_succ_of_lt hlt)
   · rw [sz]; exact Nat.ne_of_lt (Nat.lt_succ_self _)
   · intro b hb hl
     rw [sz] at hb
     simp at hb
     rcases hb with rfl | rfl | rfl
     · exact absurd hl (Nat.not_lt.mpr (Nat.le_succ _))
     · rfl
     · exact absurd hl (Nat.lt_irrefl _)
   · intro b hb
     rw [sz] at hb
     rw [sz, sz]
     simp at hb
     rcases hb with rfl | rfl | rfl
     · exact Nat.lt_succ_self _
     · exact Nat.lt_succ_of_lt (Nat.lt_succ_of_lt hlt)
     · exact Nat.lt_succ_of_lt (Nat.lt_succ_self _)
   · rw [sz]; exact Nat.le_succ _
 | false =>
   refine wp_f (by decide) (wpAny_bind (wpAny_pure ?_))
   refine wpAny_bind (T.epoch ?_)
   refine wpAny_bind (wpAny_newObj_type (wpAny_pure ⟨_, rfl, "set_iterator", _, ⟨_, Heap.get?_push_size _ rfl, rfl⟩, nx_slot.lookup, ?_⟩))
   have ne : S ≠ s.heap.objs.size := Nat.ne_of_lt hlt
   have fpo : ∀ b ∈ [s.heap.objs.size, S], b < s.heap.objs.size → b = S := fun b hb hl => by
     simp at hb
     rcases hb with rfl | rfl
     · exact absurd hl (Nat.lt_irrefl _)
     · rfl
   have fpl : ∀ o : Obj, ∀ b ∈ [s.heap.objs.size, S], b < (s.heap.push o).objs.size := fun o b hb => by
     rw [sz]
     simp at hb
     rcases hb with rfl | rfl
     · exact Nat.lt_succ_self _
     · exact Nat.lt_succ_of_lt hlt
   cases hb : byT w with
   | true =>
     exact k _ _ s.drawn _ [s.heap.objs.size, S] _ (pick_perm _ es) (fun A' hA => walk_A (t := t) hA hb ne) ⟨⟨0, Heap.get?_push_size _ rfl⟩, T.keep fun o e => Heap.get?_push_of_some _ e⟩ (fun b o e => Heap.get?_push_of_some _ e) fpo (fpl _) (Nat.le_refl _) (by simp)
   | false =>
     have hz : es.size ≤ 1 := by rw [hb] at hd; simpa using hd
     exact k _ _ s.drawn es.toList [s.heap.objs.size, S] _ (.refl _) (fun A' hA => walk_C (t := t) (ep := ep) hA hb hz ne) ⟨⟨0, fun _ => rfl, fun z => absurd z (by decide), Heap.get?_push_size _ rfl⟩, T.keep fun o e => Heap.get?_push_of_some _ e⟩ (fun b o e => Heap.get?_push_of_some _ e) fpo (fpl _) (Nat.le_refl _) (by simp)
end
end SX
namespace SX
open PySem PySem.Spec PyProof.Rows
section
variable {P : Program} {w : World} {A : Around} {E : Value → Shared → Prop} {s : Shared} {it S : Addr} {es : Es} {ep : Nat} {t : SetTable}
abbrev lO (xs : Array Value) (c : Nat) : Obj := { cls := .type "list", dict := none, data := .seq xs c, slots := #[] }
theorem set_self : isSubtype (.type "set") (.type "set") = pure true := by
 rw [isSubtype_type]
 kernel_rfl
theorem upd_at {a : Addr} {xs : Array Value} {c : Nat} (f : Array Value → Array Value) {Q : Unit → Shared → Prop} (ho : s.heap.get? a = some (lO xs c)) (hz : xs.size ≤ sizeLine) (hz2 : (f xs).size ≤ sizeLine + 1)
   (h : ∀ h' c', h'.get? a = some (lO (f xs) c') → Heap.SameBut a s.heap h' → Q () { s with heap := h' }) : wpAny (model P w) A (Builtin.List.listUpdate (.ref a) f) Q E s :=
 listUpdate_at ho rfl (h _ _ (Heap.get?_update_self (Obj.mapSeq f) ho rfl) (.update ..)) hz hz2
theorem collect_set {Q : List Value → Shared → Prop} (hh : A.handled = none) (T : Sx w s.heap S es ep t)
   (k : ∀ (h' : Heap) (d' : Drawn) (tk : Nat) (vs : List Value), Ext s.heap h' → vs.Perm (es.toList.map (·.2)) → s.heap.objs.size < h'.objs.size → Q vs { s with heap := h', drawn := d', toks := tk }) : wpAny (model P w) A (collect (.ref S)) Q E s := by
 have hlt := T.lts
 unfold collect
 refine wpAny_bind (wpAny_runValue (codeAny_builtin F.entry_proto_collect ?_))
 rw [Around.under_plainId F.plain_proto_collect _]
 refine wpAny_bind (m := newList []) (wpAny_newObj_type ?_)
 refine wpAny_pure ⟨plainId_quiet F.plain_list_iadd _, codeAny_builtin F.entry_list_iadd ?_⟩
 rw [Around.under_plainId F.plain_list_iadd _]
 have T1 : Sx w (s.heap.push (lO #[] 0)) S es ep t := T.keep fun o e => Heap.get?_push_of_some _ e
 have eL : (s.heap.push (lO #[] 0)).get? s.heap.objs.size = some (lO #[] 0) := Heap.get?_push_size _ rfl
 have sz1 : (s.heap.push (lO #[] 0)).objs.size = s.heap.objs.size + 1 := Heap.size_push ..
 show wpAny _ A.in1 (Builtin.List.listExtendWith (.ref s.heap.objs.size) (.ref S) (.ref s.heap.objs.size)) _ _ { s with heap := s.heap.push (lO #[] 0) }
 unfold Builtin.List.listExtendWith
 refine wpAny_bind (wpAny_typeOf (T1.typ (s := { s with heap := s.heap.push (lO #[] 0) })) ?_)
 have nsr : Builtin.List.listSameRef (.ref s.heap.objs.size) (.ref S) = false := by
   show (s.heap.objs.size == S) = false
   exact beq_eq_false_iff_ne.mpr (Nat.ne_of_gt hlt)
 rw [nsr]
 refine wp_f (by decide) ?_
 refine wpAny_bind (iter_set (s := { s with heap := s.heap.push (lO #[] 0) }) T1 fun it h2 d2 ord fp St hp W st ex fpo fpl hit hmem => ?_)
 have T2 : Sx w h2 S es ep t := T1.keep fun o e => ex _ o e
 have tS : Shared.TypeIs { s with heap := h2, drawn := d2 } (.ref S) "set" := T2.typ (s := { s with heap := h2, drawn := d2 })
 refine wpAny_bind (wpAny_holding ?_)
 unfold Builtin.List.listLengthHint
 refine wpAny_bind (wpAny_specialOf tS F.slot_set_len.lookup ?_)
 generalize hid : ("set.__len__" : String) = id0
 (fail_if_success (clear hid id0))
 wp_delta
 rw [show splitId id0 = some ("set", "__len__") from by subst hid; decide +kernel]
 subst hid
 refine wpAny_bind (wpAny_isInstance (b := true) tS set_self ?_)
 refine wp_f (by decide) ?_
 refine wp_t (by decide +kernel) ?_
 refine wpAny_bind (wpAny_typeOf tS ?_)
 refine wpAny_pure ?_
 refine wp_t (by decide +kernel) ?_
 refine wpAny_bind (wpAny_rule ?_)
 refine wpAny_bind ?_
 unfold Builtin.List.listTouch
 have h64 : (0 : Nat) ≤ sizeLine := Nat.zero_le _
 have eL2 : h2.get? s.heap.objs.size = some (lO #[] 0) := ex _ _ eL
 refine wpAny_bind (upd_at (s := { s with heap := h2, drawn := d2 }) (·.push Value.none) eL2 h64 (by simp) fun h3 c3 e3 b3 => ?_)
 refine upd_at (s := { s with heap := h3, drawn := d2 }) (·.pop) e3 (by rw [sizeLine_eq]; decide) (by simp) fun h4 c4 e4 b4 => ?_
 have nLf : s.heap.objs.size ∉ fp := fun z => by
   have := fpo _ z (by rw [sz1]; exact Nat.lt_succ_self _)
   exact Nat.ne_of_gt hlt this
 have st4 : St 0 h4 := (W A hh).frame 0 h2 h4 st fun b hb o e => by
   have nb : b ≠ s.heap.objs.size := fun z => nLf (z ▸ hb)
   exact (b4.2 b nb).trans ((b3.2 b nb).trans e)
 have hn : ord.length ≤ sizeLine := by
   rw [hp.length_eq, Array.length_toList]
   exact fits_of_scanBound T.lt
 refine wpAny_pure ⟨plainId_quiet F.plain_extend_loop _, codeAny_extend_loopS (W A.in1 (by simpa using hh)).toS hn _ nLf _ ord.length 0 { s with heap := h4, drawn := d2 } #[] c4 rfl (Nat.zero_le _) st4 e4 (ItemsOf.nil _) fun s' acc c mv eA hacc => ?_⟩
 refine wpAny_bind (wpAny_load eA (wpAny_pure ?_))
 obtain ⟨h5, g5, d5, tk5, os5⟩ := s'
 obtain rfl : g5 = s.gens := mv.gens
 obtain rfl : d5 = d2 := mv.drawn
 obtain rfl : os5 = s.os := mv.os
 have ev : acc.toList = ord.map (·.2) := by
   refine List.ext_getElem? fun i => ?_
   rw [Array.getElem?_toList]
   by_cases hi : i < acc.size
   · rw [Array.getElem?_eq_getElem hi]
     obtain ⟨e, h1, h2⟩ := hacc.2 i _ (Array.getElem?_eq_getElem hi)
     rw [List.getElem?_map, h1, h2]
     rfl
   · rw [Array.getElem?_eq_none (by omega), List.getElem?_map, List.getElem?_eq_none (by have := hacc.1; omega)]
     rfl
 refine k h5 d5 tk5 acc.toList (fun b o e => mv.heap b o (fun z => ?_) ?_) (by rw [ev]; exact hp.map _) (Heap.lt_size eA)
 · have hbl := Heap.lt_size e
   rcases List.mem_cons.mp z with z | z
   · exact Nat.ne_of_lt hbl z
   · rw [List.mem_singleton.mp z] at hbl
     have : s.heap.objs.size + 1 ≤ it := by rw [← sz1]; exact hit
     exact absurd hbl (Nat.not_lt.mpr (Nat.le_of_succ_le this))
 · have nb : b ≠ s.heap.objs.size := Nat.ne_of_lt (Heap.lt_size e)
   exact (b4.2 b nb).trans ((b3.2 b nb).trans (ex b o (Heap.get?_push_of_some _ e)))
end
end SX
namespace SX
open PySem PySem.Spec PyProof.Rows
section
variable {P : Program} {w : World} {A : Around} {E : Value → Shared → Prop} {s : Shared} {it S : Addr} {es : Es} {ep : Nat} {t : SetTable}
theorem strs_of : ∀ {vs : List Value}, (∀ v ∈ vs, ∃ x t, v = .str x t) → StrsAre vs (vs.map strOf)
 | [], _ => .nil
 | v :: vs, h => by
   obtain ⟨x, t, rfl⟩ := h v (by simp)
   exact .cons x t (strs_of fun u z => h u (List.mem_cons_of_mem _ z))
end
end SX
namespace L3
open PySem PySem.Spec
open PyProof.Rows hiding St
open L2
open SX
theorem Inv.draw {X : Cx} {pins : List (Addr × Obj)} {σ : List (Option V)} {H : Hp} {s : Shared} (I : Inv X pins σ H s) (d : Drawn) : Inv X pins σ H { s with drawn := d } :=
 ⟨I.ok, I.os, I.bare, I.base, I.loc, I.cell, I.free, I.freeC, I.pin, I.hok, I.len⟩
def TxsV (K : PySem.W.Frag) (H : Hp) (v : V) (ys : List Str) : Prop := (∃ x : Str, v = .str x ∧ ys = x.cps.toList.map sg) ∨ ∃ a, v = .ref a ∧ SqL K H a (ys.map V.str)
theorem src_tx {P : Program} {w : World} {h : Heap} (x : Str) (tk : Tok) : Src P w h (.str x tk) x.cps.size (SignAt x) := fun A E s₁ Q hh ex k => by
 refine wpAny_pyIter_str fun o St W st => ?_
 refine k _ _ [s₁.heap.objs.size] St W st (fun b o e => Heap.get?_push_of_some _ e) (fun b hb => .inr (by simp at hb; exact Nat.le_of_eq hb.symm)) (Nat.le_refl _)
theorem src_ls {P : Program} {w : World} {h : Heap} {l : Addr} {items : Array Value} (hl : h.IsList l items) : Src P w h (.ref l) items.size (fun i v => items[i]? = some v) := fun A E s₁ Q hh ex k => by
 have hl1 : s₁.heap.IsList l items := hl.at fun o e => ex l o e
 have lt : l < h.objs.size := by obtain ⟨o, e, _⟩ := hl; exact Heap.lt_size e
 have lt1 : l < s₁.heap.objs.size := by obtain ⟨o, e, _⟩ := hl1; exact Heap.lt_size e
 refine wpAny_pyIter_list hl1 ?_
 refine k s₁.heap.objs.size _ [s₁.heap.objs.size, l] _ (fun A' hA => Walks.list hA _ l (Nat.ne_of_lt lt1) items) ⟨⟨_, Heap.get?_push_size _ rfl, rfl, rfl⟩, hl1.push _⟩ (fun b o e => Heap.get?_push_of_some _ e) (fun b hb => ?_) (Nat.le_refl _)
 simp at hb
 rcases hb with rfl | rfl
 · exact .inr (Nat.le_refl _)
 · exact .inl lt
theorem len_nodup {xs ys : List Str} (h : xs.Nodup) (hs : ∀ k ∈ xs, k ∈ ys) : xs.length ≤ ys.length := by
 induction xs generalizing ys with
 | nil => exact Nat.zero_le _
 | cons x xs ih =>
   have hx : x ∈ ys := hs x (by simp)
   have h' := List.nodup_cons.mp h
   have := ih (ys := ys.erase x) h'.2 fun k hk => (List.mem_erase_of_ne (fun z : k = x => h'.1 (z ▸ hk))).mpr (hs k (List.mem_cons_of_mem _ hk))
   rw [List.length_erase_of_mem hx] at this
   have : 0 < ys.length := List.length_pos_of_mem hx
   simp only [List.length_cons]
   omega
def TxsD (d : PyData) (ys : List Str) : Prop := (∃ x : Str, d = .str x ∧ ys = x.cps.toList.map sg) ∨ d = .list (ys.map .str)
end L3
namespace L3
open PySem PySem.Spec
open PyProof.Rows hiding St
open L2
theorem eq_list {n b n' b' : Nat} {neg : Bool} {ds es : List PyData} (h : Nice n b (.tuple ds)) (h' : Nice n' b' (.tuple es)) (hn : n ≤ 60 := by decide) {q : Bool} (hq : q = true ↔ ds = es) : eqF neg (.list ds) (.list es) = some (.o (.bool (if neg then !q else q))) := by
 have o1 : okD (.list ds) = true := by
   have := h.okD hn
   unfold okD at this ⊢
   simpa [PyData.canLay0, PyData.depth] using this
 have o2 : (PyData.list es).canLay0 = true := by simpa [PyData.canLay0] using h'.lay
 unfold eqF
 rw [if_pos (by rw [o1, o2]; rfl)]
 have e1 : PyData.eqv (.list ds) (.list es) = q := by
   have := (eqv_solids ds es (by simpa [solid] using h.sol) (by simpa [solid] using h'.sol)).trans hq.symm
   simp only [PyData.eqv]
   cases h1 : PyData.eqvAll ds es <;> cases q <;> simp_all
 rw [e1]
end L3
namespace L3
open PySem PySem.Spec
open PyProof.Rows hiding St
open L2
def stl (a : Addr) (o : Obj) : HO := .ext fun h => h.get? a = some o
end L3
namespace DI
open PySem PyProof.Rows
def Ent (h : Heap) (d : Addr) (es : Array DictEntry) (ep : Nat) : Prop := ∃ o, h.get? d = some o ∧ o.ExactDict ∧ o.data = .dict es ep
section
variable {prog : Program} {w : World} {A : Around} {E : Value → Shared → Prop} {s : Shared} {d it : Addr} {es : Array DictEntry} {ep i : Nat}
theorem Ent.ty (m : Ent s.heap d es ep) : s.TypeIs (.ref d) "dict" := let ⟨o, h1, h2, _⟩ := m; ⟨o, h1, h2.1⟩
theorem it_ent {Q : Value → Shared → Prop} (ns : (d == sysModules) = false) (m : Ent s.heap d es ep) (q : Q (.ref s.heap.objs.size) { s with heap := s.heap.push { cls := .type "dict_keyiterator", data := .fields #[.ref d, .int 0 0, .int es.size 0, .int ep 0] } }) : wpAny (model prog w) A (pyIter (.ref d)) Q E s := by
 have T := m.ty
 obtain ⟨o, g1, g2, g3⟩ := m
 refine wpAny_pyIter_slot T F.slot_dict_iter (wpAny_call_entry F.slot_dict_iter T F.entry_dict_iter ?_ (F.args_dict_iter_1 _))
 unfold Builtin.«dict.__iter__» Builtin.Dict.dictSlotNone Builtin.Dict.showsAll
 refine wpAny_bind (wpAny_bind (wpAny_notOrdered_dict T (wpAny_pure ?_)))
 refine wpAny_bind (m := Builtin.Dict.addrOf _) (wpAny_pure ?_)
 dsimp only
 rw [if_neg (by rw [ns]; decide)]
 refine wpAny_bind (wpAny_pure (wpAny_bind (wpAny_dictEntries g1 g3 (wpAny_bind (wpAny_dictEpoch g1 g3 ?_)))))
 refine wpAny_bind (wpAny_newObj_type (wpAny_pure ⟨_, rfl, "dict_keyiterator", _, ⟨_, Heap.get?_push_size _ rfl, rfl⟩, F.slot_dict_keyiterator_next.lookup, ?_⟩))
 simpa [rawInt] using q
theorem nx_ent {Q : Option Value → Shared → Prop} (hh : A.handled = none) (t : s.heap.IsKeyIter it d i es.size ep) (m : Ent s.heap d es ep)
   (item : ∀ (hi : i < es.size) (h' : Heap), h'.IsKeyIter it d (i + 1) es.size ep → Heap.ExtBut it s.heap h' → Q (some es[i].key) { s with heap := h' })
   (fin : es.size ≤ i → ∀ h', Heap.ExtBut it s.heap h' → Q none { s with heap := h' }) : wpAny (model prog w) A (pyNext (.ref it)) Q E s := by
 obtain ⟨o, t1, t2, t3⟩ := id t
 obtain ⟨u, g1, g2, g3⟩ := m
 unfold pyNext
 refine wpAny_bind (wpAny_attempt (wpAny_callSpecial?_slot (name := Str.ofString "__next__") t.typeIs F.slot_dict_keyiterator_next (wpAny_call_entry F.slot_dict_keyiterator_next t.typeIs F.entry_dict_keyiterator_next ?_ (F.args_dict_keyiterator_next_1 _))))
 refine wpAny_bind (wpAny_pure (wpAny_bind (wpAny_bind ?_)))
 first | refine wpAny_bind (wpAny_typeNameOfWhole_keyiter t.typeIs (wpAny_pure ?_)) | refine wpAny_bind (wpAny_typeNameOf_keyiter t.typeIs (wpAny_pure ?_))
 refine wpAny_bind (wpAny_fieldsOf t1 t3 ?_)
 simp only [show Builtin.Dict_items.ownsTuple "dict_keyiterator" = false by decide, Bool.false_eq_true, if_false]
 show wpAny _ _ (ite ((Value.ref d == Value.none) = true) _ _) _ _ s
 rw [if_neg (show ¬ (Value.ref d == Value.none) = true from Bool.false_ne_true)]
 refine wpAny_bind (m := Builtin.Dict_items.addrOf _) (wpAny_pure (wpAny_bind (wpAny_dictEntries g1 g3 ?_)))
 rw [if_neg (by rw [bne_self_eq_false]; decide)]
 refine wpAny_bind (m := Builtin.Dict_items.addrOf _) (wpAny_pure (wpAny_bind (wpAny_dictEpoch g1 g3 ?_)))
 rw [if_neg (by rw [bne_self_eq_false]; decide)]
 refine wpAny_pure ?_
 have ni : ¬ ((i : Int) < 0) := by omega
 rcases Nat.lt_or_ge i es.size with hi | hi
 · simp only [ni, if_false, Int.toNat_natCast, Array.getElem?_eq_getElem hi]
   refine wpAny_bind ?_
   first | refine wpAny_bind (wpAny_typeNameOfWhole_keyiter t.typeIs (wpAny_pure ?_)) | refine wpAny_bind (wpAny_typeNameOf_keyiter t.typeIs (wpAny_pure ?_))
   refine wpAny_bind (wpAny_isOneOf_keyiter t.typeIs ?_)
   show wpAny _ _ (setField (.ref it) 1 (rawInt (i + 1)) >>= _) _ _ s
   refine wpAny_bind (wpAny_setField t1 t3 (by simp) ?_)
   generalize hh' : s.heap.update it (Obj.mapFields (·.setIfInBounds 1 (rawInt ((i : Int) + 1)))) = h'
   have t' : h'.IsKeyIter it d (i + 1) es.size ep := by
     rw [← hh']
     exact ⟨_, Heap.get?_update_self _ t1 (Obj.isFreed_of_fields (Obj.data_mapFields t3 _)), (Obj.cls_mapFields ..).trans t2, by rw [Obj.data_mapFields t3]; simp [rawInt]⟩
   refine wpAny_bind (wpAny_holding (wpAny_bind (wpAny_isOneOf_keyiter (s := { s with heap := h' }) t'.typeIs ?_)))
   show wpAny _ _ (pure es[i].key) _ _ _
   refine wpAny_pure (wpAny_pure ⟨_, rfl, wpAny_pure (item hi h' t' ?_)⟩)
   rw [← hh']
   exact (Heap.SameBut.update ..).extBut
 · simp only [ni, if_false, Int.toNat_natCast, Array.getElem?_eq_none hi]
   refine wpAny_bind ?_
   first | refine wpAny_bind (wpAny_typeNameOfWhole_keyiter t.typeIs (wpAny_pure ?_)) | refine wpAny_bind (wpAny_typeNameOf_keyiter t.typeIs (wpAny_pure ?_))
   show wpAny _ _ (setField (.ref it) 0 .none >>= _) _ _ s
   refine wpAny_bind (wpAny_setField t1 t3 (by simp) (wpAny_bind ?_))
   simp only [newExc, newTuple]
   refine wpAny_bind (wpAny_newObj_type ?_ (by size_fits))
   refine wpAny_bind (m := firstArgMember _ _) (wpAny_of_eq (a := Value.none) (by first | rfl | (simp only [firstArgMember]; rfl)) (wpAny_newObj_type ?_ (by size_fits)))
   simp only [raiseNew]
   refine wpAny_bind (wpAny_handled ?_)
   rw [show A.in1.handled = none from hh]
   refine wpAny_bind (wpAny_pure (wpAny_throw ?_))
   refine wpAny_bind (wpAny_isInstance (b := true) (T := "StopIteration") ⟨_, Heap.get?_push_size _ rfl, rfl⟩ isSubtype_stop ?_)
   exact wpAny_pure (fin hi _ (((Heap.SameBut.update ..).extBut.push _).push _))
end
end DI
namespace L3
open PySem PySem.Spec
open PyProof.Rows hiding St
open L2
abbrev TK := List (List Key × Addr × Value)
def TObj (P : Program) (w : World) (a : Addr) (o : Obj) (xs : TK) : Prop :=
 xs.length ≤ sizeLine ∧ (a == sysModules) = false ∧ o.ExactDict ∧ ∃ es ep, o.data = .dict es ep ∧ es.toList = xs.map (entryOfKey (tupleKind (mixKind P w))) ∧ (xs.map (·.1)).Nodup
def KLie (H : Hp) (xs : TK) : Prop := ∀ q ∈ xs, H q.2.1 = some (.tup (q.1.map kV))
theorem lie_of {H : Hp} : ∀ {kvs : List (List Key × V)} {xs : TK}, KT H kvs xs → KLie H xs
 | _, _, .nil, q, hq => nomatch hq
 | _, _, .cons r t, q, hq => by
   rcases List.mem_cons.mp hq with rfl | hq
   · rw [← r.1]; exact r.2.1
   · exact lie_of t q hq
theorem kt_keys {H : Hp} : ∀ {kvs : List (List Key × V)} {xs : TK}, KT H kvs xs → xs.map (·.1) = kvs.map (·.1)
 | _, _, .nil => rfl
 | _, _, .cons r t => by rw [List.map_cons, List.map_cons, kt_keys t, r.1]
section
variable {X : Cx} {pins : List (Addr × Obj)} {σ : St} {H : Hp} {s : Shared}
theorem inv_stillT {a : Addr} {kvs : List (List Key × V)} (I : Inv X pins σ H s) (ha : H a = some (.dT kvs)) : ∃ o xs, TObj X.prog X.w a o xs ∧ KT H kvs xs ∧ Inv X pins σ (upd H a (stl a o)) s := by
 obtain ⟨z, y, xs, r, o, es, ep, e, c, g1, g2, g3⟩ := I.hok a _ ha
 refine ⟨o, xs, ⟨?_, y, c, es, ep, g1, g2, g3⟩, r, ?_⟩
 · rw [← Paired.length r]; exact z
 · exact I.write (x := a) (e := a) (t' := s.toks) (h' := s.heap) (by rw [ha]; exact True.intro) (.inl rfl) (fun _ _ _ q => q) ⟨o, e⟩ ⟨e, ⟨o, e⟩, fun h1 h2 p k => k o p⟩
end
def Itt (a : Addr) (o : Obj) (xs : TK) : It :=
 ⟨fun i H => i < xs.length ∧ H a = some (stl a o), fun i H x H' => H' = H ∧ ∃ q, xs[i]? = some q ∧ x = .ref q.2.1, fun i H => xs.length ≤ i ∧ H a = some (stl a o)⟩
theorem turn_dT {P : Program} {w : World} {K : PySem.W.Frag} {tg : Expr} {a it : Addr} {o : Obj} {xs : TK} {es : Array DictEntry} {ep : Nat} (ne : a ≠ it) (c : o.ExactDict) (d : o.data = .dict es ep) (el : es.toList = xs.map (entryOfKey (tupleKind (mixKind P w)))) :
   Turn P w K tg (Itt a o xs) [it] it (fun i h => i ≤ xs.length ∧ h.IsKeyIter it a i es.size ep) where
 mem := by simp
 obj := fun i h st b hb => by
   have e : b = it := by simpa using hb
   subst e
   obtain ⟨_, o, e, c, d⟩ := st
   exact ⟨o, e, fun v z => by rw [d] at z; cases z⟩
 keep := fun i h h' st k => ⟨st.1, st.2.at fun o e => k it (by simp) o e⟩
 item := by
   intro X hP hw hK hc i pins s σ H E I hf st hg
   subst hP hw hK
   obtain ⟨f0, f1, f2, f3, f4, f5⟩ := hf it (by simp)
   obtain ⟨hi, ha⟩ := hg
   obtain ⟨eo, _, _⟩ := I.hok a _ ha
   have ln : es.size = xs.length := by rw [← Array.length_toList, el, List.length_map]
   refine DI.nx_ent (I.ok.hd hc) st.2 ⟨o, eo, c, d⟩ (fun hi' h' t' kk => ?_) fun z => by omega
   have I1 : Inv X pins σ H { s with heap := h' } := I.turned (t' := s.toks) (fun b o hb e => kk b o hb e) f0 f1 f3 f4 f5
   obtain ⟨oi, e, hcl, hdt⟩ := id t'
   have hx : xs[i]? = some xs[i] := List.getElem?_eq_getElem hi
   have ek : es[i].key = .ref xs[i].2.1 := by
     have h1 : es.toList[i]? = some es[i] := by rw [Array.getElem?_toList, Array.getElem?_eq_getElem hi']
     rw [el, List.getElem?_map, hx] at h1
     rw [← Option.some.inj h1]
     rfl
   rw [ek]
   exact ⟨_, rfl, go_of (s := { s with heap := h' }) e hcl hdt (by decide) ⟨.ref xs[i].2.1, H, I1, rfl, ⟨rfl, _, hx, rfl⟩, ⟨hi, t'⟩, fun b hb => (hf b hb).1⟩⟩
 done := by
   intro X hP hw hK hc i pins s σ H E I hf st hg
   subst hP hw hK
   obtain ⟨f0, f1, f2, f3, f4, f5⟩ := hf it (by simp)
   obtain ⟨hi, ha⟩ := hg
   obtain ⟨eo, _, _⟩ := I.hok a _ ha
   have ln : es.size = xs.length := by rw [← Array.length_toList, el, List.length_map]
   refine DI.nx_ent (I.ok.hd hc) st.2 ⟨o, eo, c, d⟩ (fun hi' => by omega) fun z h' kk => ⟨rfl, I.turned (t' := s.toks) (fun b o hb e => kk b o hb e) f0 f1 f3 f4 f5⟩
 self := fun _ _ _ _ _ st h => wpAny_pyIter_keyiter st.2 h
def iDT (P : Program) (w : World) (t : TE) : TI := fun σ H R => t σ H fun v H1 => ∃ a o xs, v = .ref a ∧ H1 a = some (stl a o) ∧ TObj P w a o xs ∧ R (Itt a o xs) H1
theorem pi_dT {X : Cx} {tg l : Expr} {tl : TE} (hl : PE X l tl) : PI X tg l (iDT X.prog X.w tl) := by
 intro pins s σ H R I h
 refine thn (hl pins s σ H _ I h) fun v s1 ⟨y, H1, I1, r1, q1⟩ => ?_
 obtain ⟨a, o, xs, rfl, ha, ⟨z, ns, c, es, ep, g1, g2, g3⟩, q⟩ := q1
 cases r1
 obtain ⟨eo, _, _⟩ := I1.hok a _ ha
 refine DI.it_ent ns ⟨o, eo, c, g1⟩ ?_
 have ne : a ≠ s1.heap.objs.size := Nat.ne_of_lt (Heap.lt_size eo)
 refine ⟨s1.heap.objs.size, [s1.heap.objs.size], _, Itt a o xs, H1, rfl, I1.kept (t' := s1.toks) fun b o e => Heap.get?_push_of_some _ e, turn_dT ne c g1 g2, ⟨Nat.zero_le _, _, Heap.get?_push_size _ rfl, rfl, rfl⟩, fun b hb => ?_, q⟩
 have e : b = s1.heap.objs.size := by simpa using hb
 subst e
 exact I1.fpOk (Nat.le_refl _) (I1.hok.fresh (Nat.le_refl _))
end L3
namespace L3
open PySem PySem.Spec
open PyProof.Rows hiding St
open L2
section
variable {K : PySem.W.Frag} {O : Ob} {H₀ H H' : Hp} {A : Nat → Addr → Prop} {σ : St} {ρ : DSt}
def reg (A : Nat → Addr → Prop) (i : Nat) (W : Addr → Prop) : Nat → Addr → Prop := fun j b => (j ≠ i ∧ A j b) ∨ (j = i ∧ W b)
theorem Rep.tstay {i : Nat} (r : Rep K O H₀ A H σ ρ) (stay : ∀ b u, H b = some u → ¬ A i b → H' b = some u) : TupStay H H' := fun b u hu hb => stay b u hb fun z => by
 obtain ⟨_, ⟨o, q, ho⟩, _⟩ := r.own i b z
 rw [hb] at q
 cases q
 obtain ⟨us, e1 | ⟨o', e1⟩⟩ := hu
 · exact (ho us).1 e1
 · exact (ho us).2 o' e1
theorem Rep.setT {i : Nat} {v : V} {W : Addr → Prop} {T : Thg} {H1 : Hp} (r : Rep K O H₀ A H σ ρ) (s : Stp O H H1) (stay1 : ∀ b u, H1 b = some u → ¬ A i b → H' b = some u) (hW : ∀ b, W b → (A i b ∨ H b = Option.none) ∧ ∃ o, H' b = some o ∧ OwnO o)
   (hR : T.R K (unO O (reg A i W)) W H' v) : Rep K O H₀ (reg A i W) H' (σ.set i (some v)) (ρ.set i (some (.thg T))) := by
 have ts1 := (r.stp s).tstay stay1
 have ts : TupStay H H' := fun b u hu hb => ts1 b u hu (s.t b u hu hb)
 have nA : ∀ b, O.M b → ¬ A i b := fun b m z => (r.own i b z).2.2 m
 have stay : ∀ b u, H b = some u → ¬ A i b → ¬ O.M b → H' b = some u := fun b u e z m => stay1 b u (s.s b u e m) z
 have sM : ∀ b, O.M b → H' b = H1 b := fun b m => by
   obtain ⟨o, e⟩ := r.ok.here H1 b (s.p r.p) m
   rw [e, stay1 b o e (nA b m)]
 have pp : O.P H' := r.ok.loc H1 _ sM (s.p r.p)
 have oth : ∀ {j b}, j ≠ i → A j b → ¬ A i b := fun hj a z => hj (r.dis _ _ _ a z)
 have un : ∀ b u, H b = some u → unO O A b → unO O (reg A i W) b := fun b u e f => ⟨f.1, fun j z => by
   rcases z with z | z
   · exact f.2 j z.2
   · rcases (hW b z.2).1 with y | y
     · exact f.2 i y
     · rw [e] at y; cases y⟩
 have tF : ∀ b u, unO O A b → H b = some u → unO O (reg A i W) b ∧ H' b = some u := fun b u f q => ⟨un b u q f, stay b u q (f.2 i) f.1⟩
 have mv : ∀ {v d}, Is K (unO O A) H v d → Is K (unO O (reg A i W)) H' v d := fun z => z.to (fun b ys f q => tF b _ f q) fun b ys q => SqT.stay (h := q) ts
 have mvs : ∀ {v d}, IsAll K (unO O A) H v d → IsAll K (unO O (reg A i W)) H' v d := fun z => z.to (fun b ys f q => tF b _ f q) fun b ys q => SqT.stay (h := q) ts
 have wm : ∀ b, W b → H₀ b = Option.none ∧ ¬ O.M b := fun b w => by
   rcases (hW b w).1 with z | z
   · exact ⟨(r.own i b z).1, (r.own i b z).2.2⟩
   · have m : ¬ O.M b := fun m => by obtain ⟨o, e⟩ := r.ok.here H b r.p m; rw [z] at e; cases e
     exact ⟨r.st.s.free m z, m⟩
 refine ⟨r.ok, pp, r.p0, ⟨fun b o hb n => ?_, fun _ => pp, fun b u hu hb => ts b u hu (r.st.t b u hu hb)⟩, fun j k b x y => ?_, fun j b x => ?_, fun j x e => ?_, by rw [List.length_set, List.length_set]; exact r.len⟩
 · exact stay b o (r.st.s b o hb n) (fun z => by rw [(r.own i b z).1] at hb; cases hb) n
 · rcases x with x | x <;> rcases y with y | y
   · exact r.dis j k b x.2 y.2
   · rcases (hW b y.2).1 with z | z
     · exact absurd (r.dis j i b x.2 z) x.1
     · obtain ⟨_, ⟨o, q, _⟩, _⟩ := r.own j b x.2; rw [z] at q; cases q
   · rcases (hW b x.2).1 with z | z
     · exact absurd (r.dis k i b y.2 z) y.1
     · obtain ⟨_, ⟨o, q, _⟩, _⟩ := r.own k b y.2; rw [z] at q; cases q
   · exact x.1.trans y.1.symm
 · rcases x with x | x
   · obtain ⟨h0, ⟨o, q, ho⟩, m⟩ := r.own j b x.2
     exact ⟨h0, ⟨o, stay b o q (oth x.1 x.2) m, ho⟩, m⟩
   · exact ⟨(wm b x.2).1, (hW b x.2).2, (wm b x.2).2⟩
 · by_cases hj : i = j
   · subst hj
     have hi : i < ρ.length := by
       rcases Nat.lt_or_ge i ρ.length with z | z
       · exact z
       · rw [List.getElem?_eq_none (by simpa using z)] at e; cases e
     rw [List.getElem?_set_self hi] at e
     cases e
     exact ⟨v, List.getElem?_set_self (by have := r.len; omega), T.to (fun b u f q => ⟨f, q⟩) (fun b u w q => ⟨.inr ⟨rfl, w⟩, q⟩) (TupStay.refl _) hR⟩
   · rw [List.getElem?_set_ne hj] at e
     obtain ⟨w, h1, h2⟩ := r.at_ j x e
     have hj' : j ≠ i := fun z => hj z.symm
     refine ⟨w, by rw [List.getElem?_set_ne hj]; exact h1, ?_⟩
     cases x with
     | im d => exact mv h2
     | own es =>
       obtain ⟨b, ys, rfl, hb, hlb, hs⟩ := h2
       exact ⟨b, ys, rfl, .inl ⟨hj', hb⟩, stay b _ hlb (oth hj' hb) (r.own j b hb).2.2, mvs hs⟩
     | ob => exact h2
     | scr n => exact IsS.to (fun b u f q => tF b u f q) h2
     | dct ks => obtain ⟨b, hb, h2⟩ := h2; exact ⟨b, .inl ⟨hj', hb⟩, h2.to fun u q => stay b u q (oth hj' hb) (r.own j b hb).2.2⟩
     | gen f ds => obtain ⟨b, xs, e, hb, q, z⟩ := h2; exact ⟨b, xs, e, .inl ⟨hj', hb⟩, stay b _ q (oth hj' hb) (r.own j b hb).2.2, mvs z⟩
     | rd f ds => obtain ⟨b, xs, e, hb, q, z⟩ := h2; exact ⟨b, xs, e, un b _ q hb, stay b _ q (hb.2 i) hb.1, mvs z⟩
     | exc C ns ds => obtain ⟨xs, e, z⟩ := h2; exact ⟨xs, e.to fun b u f q => tF b u f q, mvs z⟩
     | thg T => exact T.to (fun b u f q => tF b u f q) (fun b u w q => ⟨.inl ⟨hj', w⟩, stay b u q (oth hj' w) (r.own j b w).2.2⟩) ts h2
     | thr T => obtain ⟨W', hw, z⟩ := h2; exact ⟨W', fun b w => let ⟨f, o, q⟩ := hw b w; ⟨un b o q f, o, stay b o q (f.2 i) f.1⟩, T.to (fun b u f q => tF b u f q) (fun b u w q => ⟨w, stay b u q ((hw b w).1.2 i) (hw b w).1.1⟩) ts z⟩
theorem Frm.setT {i : Nat} {W : Addr → Prop} {H1 : Hp} (s : Stp O H H1) (stay : ∀ b u, H1 b = some u → ¬ A i b → H' b = some u) (hW : ∀ b, W b → (A i b ∨ H b = Option.none)) : Frm O A H (reg A i W) H' := fun b o e u => ⟨stay b o (s.s b o e u.1) (u.2 i), u.1, fun j z => by
 rcases z with z | z
 · exact u.2 j z.2
 · rcases hW b z.2 with y | y
   · exact u.2 i y
   · rw [e] at y; cases y⟩
theorem set_slot {i : Nat} {v : V} (h : σ[i]? = some (some v)) : σ.set i (some v) = σ := by
 apply List.ext_getElem?
 intro j
 by_cases e : i = j
 · subst e
   rw [List.getElem?_set_self (List.getElem?_eq_some_iff.mp h).1, h]
 · rw [List.getElem?_set_ne e]
end
mutual
inductive Ow (K : PySem.W.Frag) (H : Hp) : V → PyData → List Addr → Prop
 | leaf {v d} : flat d = true → Is K (fun _ => False) H v d → Ow K H v d []
 | list {a xs ds as} : H a = some (.lst xs) → OwAll K H xs ds as → Ow K H (.ref a) (.list ds) (a :: as)
 | tuple {a xs ds as} : H a = some (.tup xs) → OwAll K H xs ds as → Ow K H (.ref a) (.tuple ds) as
inductive OwAll (K : PySem.W.Frag) (H : Hp) : List V → List PyData → List Addr → Prop
 | nil : OwAll K H [] [] []
 | cons {v vs d ds as bs} : Ow K H v d as → OwAll K H vs ds bs → OwAll K H (v :: vs) (d :: ds) (as ++ bs)
end
section
variable {K : PySem.W.Frag} {H H' : Hp} {F : Addr → Prop}
mutual
theorem Ow.to (ts : TupStay H H') : ∀ {v d as}, (∀ a ∈ as, ∀ xs, H a = some (.lst xs) → H' a = some (.lst xs)) → Ow K H v d as → Ow K H' v d as
 | _, _, _, _, .leaf f i => .leaf f (i.flat ts f)
 | _, _, _, h, .list q r => .list (h _ (by simp) _ q) (OwAll.to ts (fun a m => h a (List.mem_cons_of_mem _ m)) r)
 | _, _, _, h, .tuple q r => .tuple (ts _ _ ⟨_, .inl rfl⟩ q) (OwAll.to ts h r)
theorem OwAll.to (ts : TupStay H H') : ∀ {vs ds as}, (∀ a ∈ as, ∀ xs, H a = some (.lst xs) → H' a = some (.lst xs)) → OwAll K H vs ds as → OwAll K H' vs ds as
 | _, _, _, _, .nil => .nil
 | _, _, _, h, .cons r t => .cons (Ow.to ts (fun a m => h a (List.mem_append_left _ m)) r) (OwAll.to ts (fun a m => h a (List.mem_append_right _ m)) t)
end
mutual
theorem Ow.mem : ∀ {v d as a}, Ow K H v d as → a ∈ as → ∃ xs, H a = some (.lst xs)
 | _, _, _, _, .leaf _ _, m => (List.not_mem_nil m).elim
 | _, _, _, _, .list q r, m => by
   rcases List.mem_cons.mp m with rfl | m
   · exact ⟨_, q⟩
   · exact OwAll.mem r m
 | _, _, _, _, .tuple q r, m => OwAll.mem r m
theorem OwAll.mem : ∀ {vs ds as a}, OwAll K H vs ds as → a ∈ as → ∃ xs, H a = some (.lst xs)
 | _, _, _, _, .nil, m => (List.not_mem_nil m).elim
 | _, _, _, _, .cons r t, m => by
   rcases List.mem_append.mp m with m | m
   · exact Ow.mem r m
   · exact OwAll.mem t m
end
mutual
theorem Ow.is : ∀ {v d as}, (∀ a ∈ as, F a) → Ow K H v d as → Is K F H v d
 | _, _, _, _, .leaf f i => i.flat (TupStay.refl _) f
 | _, _, _, h, .list q r => .list (h _ (by simp)) q (OwAll.is (fun a m => h a (List.mem_cons_of_mem _ m)) r)
 | _, _, _, h, .tuple q r => .tuple (.of q) (OwAll.is h r)
theorem OwAll.is : ∀ {vs ds as}, (∀ a ∈ as, F a) → OwAll K H vs ds as → IsAll K F H vs ds
 | _, _, _, _, .nil => .nil
 | _, _, _, h, .cons r t => .cons (Ow.is (fun a m => h a (List.mem_append_left _ m)) r) (OwAll.is (fun a m => h a (List.mem_append_right _ m)) t)
end
theorem OwAll.length : ∀ {vs ds as}, OwAll K H vs ds as → vs.length = ds.length
 | _, _, _, .nil => rfl
 | _, _, _, .cons _ t => by rw [List.length_cons, List.length_cons, OwAll.length t]
theorem OwAll.append : ∀ {vs ds as ws es bs}, OwAll K H vs ds as → OwAll K H ws es bs → OwAll K H (vs ++ ws) (ds ++ es) (as ++ bs)
 | _, _, _, _, _, _, .nil, s => s
 | _, _, _, _, _, _, .cons r t, s => by rw [List.append_assoc]; exact .cons r (OwAll.append t s)
theorem OwAll.flats : ∀ {vs ds}, IsAll K F H vs ds → L3.flats ds = true → OwAll K H vs ds []
 | _, _, .nil, _ => .nil
 | _, _, .cons r t, f => by
   rw [L3.flats, Bool.and_eq_true] at f
   exact OwAll.cons (as := []) (.leaf f.1 (r.flat (TupStay.refl _) f.1)) (OwAll.flats t f.2)
theorem OwAll.at : ∀ {vs : List V} {ds as} {k : Nat} {d}, OwAll K H vs ds as → ds[k]? = some d → ∃ v cs rest, vs[k]? = some v ∧ Ow K H v d cs ∧ as.Perm (cs ++ rest) ∧
   (∀ H' v' d' cs', TupStay H H' → (∀ a ∈ rest, ∀ xs, H a = some (.lst xs) → H' a = some (.lst xs)) → Ow K H' v' d' cs' → ∃ as', OwAll K H' (vs.set k v') (ds.set k d') as' ∧ as'.Perm (cs' ++ rest))
 | _, _, _, _, _, .nil, e => by simp at e
 | _, _, _, 0, _, .cons (as := as) (bs := bs) r t, e => by
   cases e
   exact ⟨_, as, bs, rfl, r, .refl _, fun H' v' d' cs' ts h o => ⟨_, .cons o (t.to ts h), .refl _⟩⟩
 | _, _, _, k + 1, d, .cons (as := as) (bs := bs) r t, e => by
   obtain ⟨v, cs, rest, h1, h2, h3, h4⟩ := OwAll.at (k := k) (d := d) t (by simpa using e)
   refine ⟨v, cs, as ++ rest, by simpa using h1, h2, ?_, fun H' v' d' cs' ts h o => ?_⟩
   · exact (h3.append_left as).trans (by rw [← List.append_assoc, ← List.append_assoc]; exact List.perm_append_comm.append_right _)
   · obtain ⟨as', o1, o2⟩ := h4 H' v' d' cs' ts (fun a m => h a (List.mem_append_right _ m)) o
     refine ⟨_, .cons (r.to ts fun a m => h a (List.mem_append_left _ m)) o1, ?_⟩
     exact (o2.append_left as).trans (by rw [← List.append_assoc, ← List.append_assoc]; exact List.perm_append_comm.append_right _)
end
def OwnV (p : V → Prop) (d : PyData) : Thg := ⟨fun K F W H v => p v ∧ ∃ as : List Addr, as.Nodup ∧ (∀ a ∈ as, W a) ∧ Ow K H v d as, fun {K F F' W W' H H' v} hF hW ts h => by
 obtain ⟨pv, as, n, m, o⟩ := h
 exact ⟨pv, as, n, fun a z => by obtain ⟨xs, q⟩ := o.mem z; exact (hW a _ (m a z) q).1, o.to ts fun a z xs q => (hW a _ (m a z) q).2⟩⟩
abbrev OwnT (d : PyData) : Thg := OwnV (fun _ => True) d
def dget : PyData → List Nat → Option PyData
 | d, [] => some d
 | .list ds, k :: p => match ds[k]? with
   | some d => dget d p
   | none => Option.none
 | .tuple ds, k :: p => match ds[k]? with
   | some d => dget d p
   | none => Option.none
 | _, _ :: _ => Option.none
def dset : PyData → List Nat → PyData → PyData
 | _, [], e => e
 | .list ds, k :: p, e => match ds[k]? with
   | some d => .list (ds.set k (dset d p e))
   | none => .list ds
 | .tuple ds, k :: p, e => match ds[k]? with
   | some d => .tuple (ds.set k (dset d p e))
   | none => .tuple ds
 | d, _ :: _, _ => d
inductive Nd (H : Hp) (U : Addr → Prop) : V → PyData → List Nat → V → PyData → Prop
 | nil {v d} : Nd H U v d [] v d
 | list {a xs ds k v d p w e} : U a → H a = some (.lst xs) → xs[k]? = some v → ds[k]? = some d → Nd H U v d p w e → Nd H U (.ref a) (.list ds) (k :: p) w e
 | tuple {a xs ds k v d p w e} : H a = some (.tup xs) → xs[k]? = some v → ds[k]? = some d → Nd H U v d p w e → Nd H U (.ref a) (.tuple ds) (k :: p) w e
section
variable {K : PySem.W.Frag} {H H' : Hp} {U : Addr → Prop}
theorem Nd.to (ts : TupStay H H') (h : ∀ a xs, U a → H a = some (.lst xs) → H' a = some (.lst xs)) : ∀ {v d p w e}, Nd H U v d p w e → Nd H' U v d p w e
 | _, _, _, _, _, .nil => .nil
 | _, _, _, _, _, .list u q h1 h2 t => .list u (h _ _ u q) h1 h2 (t.to ts h)
 | _, _, _, _, _, .tuple q h1 h2 t => .tuple (ts _ _ ⟨_, .inl rfl⟩ q) h1 h2 (t.to ts h)
theorem Nd.get : ∀ {v d p w e}, Nd H U v d p w e → dget d p = some e
 | _, _, _, _, _, .nil => rfl
 | _, _, _, _, _, .list u q h1 h2 t => by rw [dget, h2]; exact t.get
 | _, _, _, _, _, .tuple q h1 h2 t => by rw [dget, h2]; exact t.get
theorem Nd.snocL {a : Addr} {xs : List V} {ds : List PyData} {k : Nat} {w : V} {e : PyData} (u : U a) (q : H a = some (.lst xs)) (h1 : xs[k]? = some w) (h2 : ds[k]? = some e) : ∀ {v d p}, Nd H U v d p (.ref a) (.list ds) → Nd H U v d (p ++ [k]) w e
 | _, _, _, .nil => .list u q h1 h2 .nil
 | _, _, _, .list u' q' g1 g2 t => .list u' q' g1 g2 (t.snocL u q h1 h2)
 | _, _, _, .tuple q' g1 g2 t => .tuple q' g1 g2 (t.snocL u q h1 h2)
theorem Nd.snocT {a : Addr} {xs : List V} {ds : List PyData} {k : Nat} {w : V} {e : PyData} (q : H a = some (.tup xs)) (h1 : xs[k]? = some w) (h2 : ds[k]? = some e) : ∀ {v d p}, Nd H U v d p (.ref a) (.tuple ds) → Nd H U v d (p ++ [k]) w e
 | _, _, _, .nil => .tuple q h1 h2 .nil
 | _, _, _, .list u' q' g1 g2 t => .list u' q' g1 g2 (t.snocT q h1 h2)
 | _, _, _, .tuple q' g1 g2 t => .tuple q' g1 g2 (t.snocT q h1 h2)
theorem flat_list {ds : List PyData} : ¬ flat (.list ds) = true := by simp [flat]
theorem dget_flat : ∀ {p : List Nat} {d e : PyData}, flat d = true → dget d p = some e → flat e = true
 | [], d, e, f, h => by cases h; exact f
 | k :: p, d, e, f, h => by
   cases d with
   | tuple ds =>
     rw [dget] at h
     cases q : ds[k]? with
     | none => rw [q] at h; cases h
     | some x =>
       rw [q] at h
       have f' : flats ds = true := by rw [flat] at f; exact f
       exact dget_flat (flats_iff.mp f' x (List.mem_of_getElem? q)) h
   | list ds => exact absurd f flat_list
   | _ => simp [dget] at h
theorem Ow.put : ∀ {v0 d as p} {a : Addr} {es : List PyData}, Ow K H v0 d as → as.Nodup → Nd H U v0 d p (.ref a) (.list es) → ∃ xs cs rest, H a = some (.lst xs) ∧ OwAll K H xs es cs ∧ as.Perm (a :: cs ++ rest) ∧
   ∀ H' ys es' bs, TupStay H H' → (∀ b ∈ rest, ∀ zs, H b = some (.lst zs) → H' b = some (.lst zs)) → H' a = some (.lst ys) → OwAll K H' ys es' bs → ∃ as', Ow K H' v0 (dset d p (.list es')) as' ∧ as'.Perm (a :: bs ++ rest)
 | _, _, _, [], _, _, o, nd, .nil => by
   cases o with
   | leaf f i => exact absurd f flat_list
   | list q r => exact ⟨_, _, [], q, r, by simp, fun H' ys es' bs ts h hy o' => ⟨_, .list hy o', by simp⟩⟩
 | _, _, _, k :: p, a, es, o, nd, t => by
   cases t with
   | @list a0 xs ds _ v d1 _ _ _ u q h1 h2 t =>
     cases o with
     | leaf f i => exact absurd f flat_list
     | @list _ xs0 ds0 as0 q0 r0 =>
       rw [q] at q0
       cases q0
       obtain ⟨v', cs, rest, g1, g2, g3, g4⟩ := r0.at h2
       rw [h1] at g1
       cases g1
       have n0 : (cs ++ rest).Nodup := g3.nodup_iff.mp (List.nodup_cons.mp nd).2
       obtain ⟨ys, cs', rest', k1, k2, k3, k4⟩ := Ow.put g2 (List.nodup_append.mp n0).1 t
       refine ⟨ys, cs', a0 :: (rest' ++ rest), k1, k2, ?_, fun H' zs es' bs ts h hy o' => ?_⟩
       · have e1 : as0.Perm (a :: cs' ++ (rest' ++ rest)) := g3.trans (by rw [← List.append_assoc]; exact k3.append_right rest)
         exact (e1.cons a0).trans (List.perm_middle.symm)
       · obtain ⟨as1, o1, p1⟩ := k4 H' zs es' bs ts (fun b m => h b (List.mem_cons_of_mem _ (List.mem_append_left _ m))) hy o'
         obtain ⟨as2, o2, p2⟩ := g4 H' v _ as1 ts (fun b m => h b (List.mem_cons_of_mem _ (List.mem_append_right _ m))) o1
         have es0 : xs.set k v = xs := by
           apply List.ext_getElem?
           intro j
           by_cases e : k = j
           · subst e; rw [List.getElem?_set_self (List.getElem?_eq_some_iff.mp h1).1, h1]
           · rw [List.getElem?_set_ne e]
         rw [es0] at o2
         refine ⟨a0 :: as2, ?_, ?_⟩
         · rw [dset, h2]
           exact .list (h a0 (by simp) _ q) o2
         · have e2 : as2.Perm (a :: bs ++ (rest' ++ rest)) := p2.trans (by rw [← List.append_assoc]; exact p1.append_right rest)
           exact (e2.cons a0).trans (List.perm_middle.symm)
   | @tuple a0 xs ds _ v d1 _ _ _ q h1 h2 t =>
     cases o with
     | leaf f i =>
       have := dget_flat f (Nd.get (.tuple (U := U) q h1 h2 t))
       exact absurd this flat_list
     | @tuple _ xs0 ds0 as0 q0 r0 =>
       rw [q] at q0
       cases q0
       obtain ⟨v', cs, rest, g1, g2, g3, g4⟩ := r0.at h2
       rw [h1] at g1
       cases g1
       have n0 : (cs ++ rest).Nodup := g3.nodup_iff.mp nd
       obtain ⟨ys, cs', rest', k1, k2, k3, k4⟩ := Ow.put g2 (List.nodup_append.mp n0).1 t
       refine ⟨ys, cs', rest' ++ rest, k1, k2, ?_, fun H' zs es' bs ts h hy o' => ?_⟩
       · exact g3.trans (by rw [← List.append_assoc]; exact k3.append_right rest)
       · obtain ⟨as1, o1, p1⟩ := k4 H' zs es' bs ts (fun b m => h b (List.mem_append_left _ m)) hy o'
         obtain ⟨as2, o2, p2⟩ := g4 H' v _ as1 ts (fun b m => h b (List.mem_append_right _ m)) o1
         have es0 : xs.set k v = xs := by
           apply List.ext_getElem?
           intro j
           by_cases e : k = j
           · subst e; rw [List.getElem?_set_self (List.getElem?_eq_some_iff.mp h1).1, h1]
           · rw [List.getElem?_set_ne e]
         rw [es0] at o2
         refine ⟨as2, ?_, ?_⟩
         · rw [dset, h2]
           exact .tuple (ts _ _ ⟨_, .inl rfl⟩ q) o2
         · exact p2.trans (by rw [← List.append_assoc]; exact p1.append_right rest)
end
end L3
namespace L3
open PySem PySem.Spec
open PyProof.Rows hiding St
open L2
section
variable {K : PySem.W.Frag} {O : Ob} {H₀ H H' : Hp} {A : Nat → Addr → Prop} {σ : St} {ρ : DSt}
def vTr (i : Nat) (p : V → Prop := fun _ => True) : DE := fun ρ Q => ∃ d, ρ[i]? = some (some (.thg (OwnV p d))) ∧ Q (.o d)
theorem tree_seen {i : Nat} {d : PyData} {p : V → Prop} (S : Seen K O H σ ρ) (e : ρ[i]? = some (some (.thg (OwnV p d)))) : ∃ v as, σ[i]? = some (some v) ∧ as.Nodup ∧ Ow K H v d as ∧ ∀ a ∈ as, ¬ O.M a := by
 obtain ⟨v, hv, W, hw, _, as, nd, m, o⟩ := S.at_ i _ e
 exact ⟨v, as, hv, nd, o, fun a z => (hw a (m a z)).1⟩
theorem ed_varT {i : Nat} {p : V → Prop} : ED K O (tVar i) (vTr i p) := fun σ H ρ Q Qd S h k => by
 obtain ⟨d, e, h⟩ := h
 obtain ⟨v, as, hv, nd, o, m⟩ := tree_seen S e
 exact ⟨v, hv, k _ H (.o d) (.refl _ _) (o.is m) h⟩
abbrev DOw := DSt → (PyData → Prop) → Prop
def EOw (K : PySem.W.Frag) (O : Ob) (t : TE) (f : DOw) : Prop :=
 ∀ (σ : St) (H : Hp) (ρ : DSt) (Q : VK) (Qd : PyData → Prop), Seen K O H σ ρ → f ρ Qd → (∀ v H' d as, Stp O H H' → Ow K H' v d as → as.Nodup → (∀ a ∈ as, H a = Option.none) → Qd d → Q v H') → t σ H Q
def oFlat (f : DE) : DOw := fun ρ Q => f ρ fun r => match r with
 | .o d => flat d = true ∧ Q d
 | .n ds => flats ds = true ∧ Q (.list ds)
theorem eo_flat {t : TE} {f : DE} (h : ED K O t f) : EOw K O t (oFlat f) := fun σ H ρ Q Qd S hf k => by
 refine h σ H ρ _ _ S hf fun v H1 r s1 o1 q => ?_
 cases r with
 | o d => exact k v H1 d [] s1 (.leaf q.1 (Is.flat (TupStay.refl _) o1 q.1)) .nil (fun _ m => (List.not_mem_nil m).elim) q.2
 | n ds =>
   obtain ⟨a, xs, rfl, hn, hl, hs⟩ := o1
   exact k _ H1 (.list ds) [a] s1 (.list hl (OwAll.flats hs q.1)) (by simp) (fun b m => by rw [List.mem_singleton.mp m]; exact hn) q.2
theorem ow_stp {H : Hp} {v : V} {d : PyData} {as : List Addr} (s : Stp O H H') (n : ∀ a ∈ as, ¬ O.M a) (o : Ow K H v d as) : Ow K H' v d as := o.to s.t fun a m xs q => s.s a _ q (n a m)
theorem new_notM {a : Addr} (ok : O.Ok) (p : O.P H) (h : H a = Option.none) : ¬ O.M a := fun m => by obtain ⟨o, z⟩ := ok.here H a p m; rw [h] at z; cases z
def setTS (i : Nat) (f : DOw) : DS := fun Dd ρ => f ρ fun d => Dd.nx (ρ.set i (some (.thg (OwnT d))))
theorem sd_setT {i : Nat} {t : TE} {f : DOw} (h : EOw K O t f) : SD K O (tAsg t (gName i)) (setTS i f) := fun H₀ A σ H ρ D Dd r q P => by
 refine h σ H ρ _ _ r.seen q fun v H1 d as s1 o1 n1 f1 q1 => ?_
 have m1 : ∀ a ∈ as, ¬ O.M a := fun a m => new_notM r.ok r.p (f1 a m)
 have hW : ∀ b, b ∈ as → (A i b ∨ H b = Option.none) ∧ ∃ o, H1 b = some o ∧ OwnO o := fun b m => ⟨.inr (f1 b m), by obtain ⟨xs, z⟩ := o1.mem m; exact ⟨_, z, .lst⟩⟩
 exact P.nx _ _ H1 _ (r.setT (W := fun b => b ∈ as) (T := OwnT d) s1 (fun b u e _ => e) hW ⟨trivial, as, n1, fun _ m => m, o1⟩) (.setT s1 (fun b u e _ => e) fun b m => (hW b m).1) q1
abbrev DL := DSt → PyData → (List Nat → PyData → Prop) → Prop
def LocE (K : PySem.W.Frag) (O : Ob) (i : Nat) (t : TE) (f : DL) : Prop :=
 ∀ (σ : St) (H : Hp) (ρ : DSt) (Q : VK) (Qd : List Nat → PyData → Prop) (U : Addr → Prop) (d : PyData) (v0 : V) (as : List Addr) (pp : V → Prop), Seen K O H σ ρ → ρ[i]? = some (some (.thg (OwnV pp d))) → σ[i]? = some (some v0) → Ow K H v0 d as → (∀ a ∈ as, U a) → (∀ a, U a → ¬ O.M a) → f ρ d Qd →
   (∀ v H' p e cs, Stp O H H' → Nd H' U v0 d p v e → Ow K H' v e cs → (∀ a ∈ cs, U a) → Qd p e → Q v H') → t σ H Q
def lVar : DL := fun _ d Q => Q [] d
theorem le_var {i : Nat} : LocE K O i (tVar i) lVar := fun σ H ρ Q Qd U d v0 as pp S e hv o m n hf k => ⟨v0, hv, k v0 H [] d as (.refl _ _) .nil o m hf⟩
def kids : PyData → Option (List PyData)
 | .list ds => some ds
 | .tuple ds => some ds
 | _ => Option.none
def lIx (f1 : DL) (f2 : DE) : DL := fun ρ d Q => f1 ρ d fun p e => f2 ρ fun r => ∃ (z : Int) (ds : List PyData) (k : Nat) (e' : PyData), flat e = false ∧ r.d = .int z ∧ kids e = some ds ∧ ixN ds.length z = some k ∧ ds[k]? = some e' ∧ Q (p ++ [k]) e'
theorem le_ix {i : Nat} {t1 t2 : TE} {f1 : DL} {f2 : DE} (h1 : LocE K O i t1 f1) (h2 : ED K O t2 f2) : LocE K O i (tOp (rIx K) t1 t2) (lIx f1 f2) := fun σ H ρ Q Qd U d v0 as pp S e hv o m n hf k => by
 refine h1 σ H ρ _ _ U d v0 as pp S e hv o m n hf fun v H1 p x cs s1 nd o1 m1 q0 => ?_
 refine h2 σ H1 ρ _ _ (S.stp s1) q0 fun y H2 r s2 o2 ⟨z, ds, j, e', fl, er, ek, ix, he, q⟩ => ?_
 clear q0
 have nd2 := nd.to s2.t fun a xs u q => s2.s a _ q (n a u)
 have oo := ow_stp s2 (fun a z => n a (m1 a z)) o1
 have iy := o2.is S.ok (s1.p S.p)
 rw [er] at iy
 cases iy
 cases oo with
 | leaf f1 _ => rw [fl] at f1; cases f1
 | @list a xs ds' as' q1 r1 =>
   cases ek
   obtain ⟨w, cs', rest, g1, g2, g3, _⟩ := r1.at he
   refine .inl ⟨a, xs, z, w, rfl, rfl, .of q1, ?_, k w H2 (p ++ [j]) e' cs' (s1.trans s2) (nd2.snocL (m1 a (by simp)) q1 g1 he) g2 (fun b z => m1 b (List.mem_cons_of_mem _ (g3.mem_iff.mpr (List.mem_append_left _ z)))) q⟩
   unfold atI
   rw [r1.length, ix]
   exact g1
 | @tuple a xs ds' as' q1 r1 =>
   cases ek
   obtain ⟨w, cs', rest, g1, g2, g3, _⟩ := r1.at he
   refine .inr (.inl ⟨a, xs, z, w, rfl, rfl, .of q1, ?_, k w H2 (p ++ [j]) e' cs' (s1.trans s2) (nd2.snocT q1 g1 he) g2 (fun b z => m1 b (g3.mem_iff.mpr (List.mem_append_left _ z))) q⟩)
   unfold atI
   rw [r1.length, ix]
   exact g1
def appTr (i : Nat) (fl : DL) (fe : DOw) (pp : V → Prop := fun _ => True) : DS := fun Dd ρ => ∃ d, ρ[i]? = some (some (.thg (OwnV pp d))) ∧ fl ρ d fun p e => ∃ ds, e = .list ds ∧ fe ρ fun x => ds.length < sizeLine ∧ Dd.nx (ρ.set i (some (.thg (OwnV pp (dset d p (.list (ds ++ [x])))))))
theorem perm_in {as bs : List Addr} (h : as.Perm bs) {a : Addr} (m : a ∈ bs) : a ∈ as := h.mem_iff.mpr m
theorem Rep.putT {i : Nat} {d : PyData} {v0 : V} {a : Addr} {p : List Nat} {es : List PyData} {H1 H2 : Hp} {pp : V → Prop} (r : Rep K O H₀ A H σ ρ) (e : ρ[i]? = some (some (.thg (OwnV pp d)))) (hv : σ[i]? = some (some v0)) (s1 : Stp O H H1) (s2 : Stp O H1 H2) (nd : Nd H1 (A i) v0 d p (.ref a) (.list es)) :
   ∃ xs cs, H2 a = some (.lst xs) ∧ OwAll K H2 xs es cs ∧ xs.length = es.length ∧ (∀ ys, TupStay H2 (upd H2 a (.lst ys))) ∧ a ∉ cs ∧ ∀ ys es' bs news, OwAll K (upd H2 a (.lst ys)) ys es' bs → bs.Perm (cs ++ news) → news.Nodup → (∀ b ∈ news, H1 b = Option.none ∧ ∃ zs, H2 b = some (.lst zs)) →
     ∃ W : Addr → Prop, Rep K O H₀ (reg A i W) (upd H2 a (.lst ys)) σ (ρ.set i (some (.thg (OwnV pp (dset d p (.list es')))))) ∧ Frm O A H (reg A i W) (upd H2 a (.lst ys)) := by
 obtain ⟨v1, hv1, pv, as, n0, m0, o0⟩ := r.at_ i _ e
 rw [hv] at hv1
 cases hv1
 have nM : ∀ b, A i b → ¬ O.M b := fun b z => (r.own i b z).2.2
 have s12 := s1.trans s2
 have o2 := ow_stp s12 (fun b m => nM b (m0 b m)) o0
 have nd2 := nd.to s2.t fun b xs u q => s2.s b _ q (nM b u)
 obtain ⟨xs, cs, rest, hx, ox, pm, put⟩ := o2.put n0 nd2
 have n1 : (a :: cs ++ rest).Nodup := pm.nodup_iff.mp n0
 have Aa : A i a := m0 a (perm_in pm (by simp))
 have stay : ∀ ys b u, H2 b = some u → ¬ A i b → upd H2 a (.lst ys) b = some u := fun ys b u q z => by rw [upd_ne (show b ≠ a from fun w => z (by rw [w]; exact Aa))]; exact q
 have ts : ∀ ys, TupStay H2 (upd H2 a (.lst ys)) := fun ys => (r.stp s12).tstay (stay ys)
 refine ⟨xs, cs, hx, ox, ox.length, ts, fun z => (List.nodup_cons.mp n1).1 (List.mem_append_left _ z), fun ys es' bs news oy pb nn hn => ?_⟩
 have ra : ∀ b ∈ rest, b ≠ a := fun b m w => by
   subst w
   exact (List.nodup_cons.mp n1).1 (List.mem_append_right _ m)
 obtain ⟨as', o3, pm'⟩ := put _ ys es' bs (ts ys) (fun b m zs q => by rw [upd_ne (ra b m)]; exact q) upd_same oy
 have pf : as'.Perm (as ++ news) := by
   refine pm'.trans ?_
   have e1 : (a :: bs ++ rest).Perm (a :: (cs ++ news) ++ rest) := (pb.append_right rest).cons a
   refine e1.trans ?_
   have e2 : (a :: (cs ++ news) ++ rest).Perm (a :: cs ++ rest ++ news) := by
     show (a :: (cs ++ news ++ rest)).Perm (a :: (cs ++ rest ++ news))
     refine List.Perm.cons a ?_
     rw [List.append_assoc, List.append_assoc]
     exact List.perm_append_comm.append_left cs
   exact e2.trans (pm.symm.append_right news)
 have fr : ∀ b ∈ news, H b = Option.none := fun b m => by
   obtain ⟨h1, zs, h2⟩ := hn b m
   cases q : H b with
   | none => rfl
   | some o =>
     have : ¬ O.M b := new_notM r.ok (s1.p r.p) h1
     rw [s1.s b o q this] at h1
     cases h1
 have nd3 : as'.Nodup := pf.nodup_iff.mpr (List.nodup_append.mpr ⟨n0, nn, fun b m c m' w => by
   subst w
   obtain ⟨_, ⟨o, q, _⟩, _⟩ := r.own i b (m0 b m)
   rw [fr b m'] at q
   cases q⟩)
 have hW : ∀ b, b ∈ as' → (A i b ∨ H b = Option.none) ∧ ∃ o, upd H2 a (.lst ys) b = some o ∧ OwnO o := fun b m => by
   refine ⟨?_, by obtain ⟨zs, z⟩ := o3.mem m; exact ⟨_, z, .lst⟩⟩
   rcases List.mem_append.mp (pf.mem_iff.mp m) with m | m
   · exact .inl (m0 b m)
   · exact .inr (fr b m)
 refine ⟨fun b => b ∈ as', ?_, Frm.setT s12 (stay ys) fun b m => (hW b m).1⟩
 have rr := r.setT (T := OwnV pp (dset d p (.list es'))) (v := v0) s12 (stay ys) hW ⟨pv, as', nd3, fun _ m => m, o3⟩
 rw [set_slot hv] at rr
 exact rr
theorem sd_appT {i : Nat} {pp : V → Prop} {tr te : TE} {fl : DL} {fe : DOw} (hl : LocE K O i tr fl) (he : EOw K O te fe) : SD K O (tDrop (tBM K "list" rAppend tr (tCons te tNil))) (appTr i fl fe pp) := fun H₀ A σ H ρ D Dd r q P => by
 obtain ⟨d, e, q⟩ := q
 obtain ⟨v0, hv, _, as, n0, m0, o0⟩ := r.at_ i _ e
 refine hl σ H ρ _ _ (A i) d v0 as pp r.seen e hv o0 m0 (fun a z => (r.own i a z).2.2) q fun v H1 p x cs s1 nd o1 m1 q1 => ?_
 obtain ⟨ds, rfl, q1⟩ := q1
 cases o1 with
 | leaf f _ => exact absurd f flat_list
 | @list a xs _ cs' hx ox =>
   refine ⟨.inl ⟨rfl, xs, .of hx⟩, ?_⟩
   refine he σ H1 ρ _ _ (r.stp s1).seen q1 fun w H2 y bs s2 o2 n2 f2 ⟨hz, q2⟩ => ?_
   obtain ⟨xs2, cs2, hx2, ox2, ln, ts, nc, put⟩ := r.putT e hv s1 s2 nd
   refine ⟨a, xs2, w, rfl, rfl, hx2, by rw [ln]; exact hz, ?_⟩
   have na : ∀ b ∈ bs, b ≠ a := fun b m z => by
     have := f2 b m
     rw [z, hx] at this
     cases this
   have up : ∀ b, b ≠ a → ∀ zs, H2 b = some (.lst zs) → upd H2 a (.lst (xs2 ++ [w])) b = some (.lst zs) := fun b n zs q => by rw [upd_ne n]; exact q
   obtain ⟨W, rr, ff⟩ := put (xs2 ++ [w]) (ds ++ [y]) (cs2 ++ (bs ++ [])) bs ((ox2.to (ts _) fun b m zs q => up b (fun z => nc (z ▸ m)) zs q).append (.cons (o2.to (ts _) fun b m zs q => up b (na b m) zs q) .nil)) (by rw [List.append_nil]) n2 fun b m => ⟨f2 b m, o2.mem m⟩
   exact P.nx _ σ _ _ rr ff q2
end
def Eo3 {ι κ : Type} (K : PySem.W.Frag) (X : ι → Cx) (O : κ → Ob) (e : Expr) (f : DOw) : Prop := ∃ t, (∀ i, PE (X i) e t) ∧ ∀ j, EOw K (O j) t f
def Lo3 {ι κ : Type} (K : PySem.W.Frag) (X : ι → Cx) (O : κ → Ob) (n : Nat) (e : Expr) (f : DL) : Prop := ∃ t, (∀ i, PE (X i) e t) ∧ ∀ j, LocE K (O j) n t f
section
variable {ι κ : Type} {P : Program} {w : World} {K : PySem.W.Frag} {mg : Str → Option Value} {base : Heap} {k : Nat} {X : ι → Cx} {O : κ → Ob} {a b : Expr} {es : List Expr} {fa fb : DE} {fo : DOw} {go : DOs} {fl : DL} {st : Stmt} {g : DS} {pos : Pos}
theorem e_varT (n : Nat) {x : Str} (hN : ∀ i, (X i).N[n]? = some x := by intro i; rfl) (hv : ∀ i, Vis (X i).env.scope x := by intro i; first | exact Or.inl rfl | exact Or.inr (Or.inl rfl) | exact Or.inr (Or.inr rfl))
   (hd : (x == ("__debug__" : Str)) = false := by decide) (hcd : (x == ("__classdict__" : Str)) = false := by decide) (p : V → Prop := fun _ => True) : E3 K X O (.Name x pos) (vTr n p) := ⟨_, fun i => pe_var (hN i) (hv i) hd hcd, fun j => ed_varT⟩
theorem o_flat (h : E3 K X O a fa) : Eo3 K X O a (oFlat fa) := let ⟨_, p, d⟩ := h; ⟨_, p, fun j => eo_flat (d j)⟩
theorem l_var (n : Nat) {x : Str} (hN : ∀ i, (X i).N[n]? = some x := by intro i; rfl) (hv : ∀ i, Vis (X i).env.scope x := by intro i; first | exact Or.inl rfl | exact Or.inr (Or.inl rfl) | exact Or.inr (Or.inr rfl))
   (hd : (x == ("__debug__" : Str)) = false := by decide) (hcd : (x == ("__classdict__" : Str)) = false := by decide) : Lo3 K X O n (.Name x pos) lVar := ⟨_, fun i => pe_var (hN i) (hv i) hd hcd, fun j => le_var⟩
theorem l_ix {n : Nat} (C : Ctx3 P w K mg base k X) (ha : Lo3 K X O n a fl) (hb : E3 K X O b fb) (hs : PlainIx b := by intro _ _; rfl) : Lo3 K X O n (.Subscript a b pos) (lIx fl fb) :=
 let ⟨_, p1, d1⟩ := ha; let ⟨_, p2, d2⟩ := hb; ⟨tOp (rIx K) _ _, fun i => by have h := pe_ix (pos := pos) (ix_seq (X := X i)) (p1 i) (p2 i) hs; rw [C.hK] at h; exact h, fun j => le_ix (d1 j) (d2 j)⟩
theorem s_appT (n : Nat) {apos cpos : Pos} (C : Ctx3 P w K mg base k X) (hr : Lo3 K X O n a fl) (hb : Eo3 K X O b fo)
   (hbase : ∀ i, attributeBase a "append" (X i).env (eval a (X i).env) = eval a (X i).env := by intro i; rfl)
   (hfew : ∀ i, ((backTo cpos (starEach [b] (X i).env)).all (fun x => !x.1) && (backToKw cpos (keywordEach [] (X i).env)).all (fun x => x.1.isSome) && decide (([b] : List Expr).length + ([] : List Keyword).length + (if ([] : List Keyword).isEmpty then 0 else 1) < 30)) = true := by intro i; rfl)
   (hline : (apos.endLine == cpos.line) = true := by rfl) (hs : ∀ i, starEach [b] (X i).env = [(false, eval b (X i).env)] := by intro i; rfl) (hsw : ∀ i, swapsWith (.Call (.Attribute a "append" apos) [b] [] cpos) Option.none pos.line (X i).env = pure false := by intro i; rfl) (pp : V → Prop := fun _ => True) :
   S3 K X O (.Expr (.Call (.Attribute a "append" apos) [b] [] cpos) pos) (appTr n fl fo pp) := let ⟨_, p1, d1⟩ := hr; let ⟨_, p2, d2⟩ := hb;
 ⟨tDrop (tBM K "list" rAppend _ (tCons _ tNil)), fun i => by
   have h := pe_bm (apos := apos) (cpos := cpos) PySem.F.plainAttrs_list PySem.F.slot_list_append PySem.F.type_list_append (mtr_append (X := X i)) (p1 i) (pa_cons (p2 i) pa_nil (hs i)) (hbase i) (hfew i) hline (hs i)
   rw [C.hK] at h
   exact ps_expr h (hsw i), fun j => sd_appT (d1 j) (d2 j)⟩
end
end L3
namespace L3
open PySem PySem.Spec
open PyProof.Rows hiding St
open L2
def kD : Key → PyData
 | .inl i => .int i
 | .inr x => .str x
def DctT (ks : List (List Key)) : Thg := ⟨fun _ _ W H v => ∃ a kvs, v = .ref a ∧ W a ∧ H a = some (.dT kvs) ∧ kvs.map (·.1) = ks, fun _ hW _ ⟨a, kvs, e, w, q, z⟩ => ⟨a, kvs, e, (hW a _ w q).1, (hW a _ w q).2, z⟩⟩
def addT (ks : List (List Key)) (k : List Key) : List (List Key) := if ks.any (fun x => decide (x = k)) then ks else ks ++ [k]
theorem mem_any {ks : List (List Key)} {k : List Key} : ks.any (fun x => decide (x = k)) = true ↔ k ∈ ks := by
 rw [List.any_eq_true]
 exact ⟨fun ⟨x, h, e⟩ => of_decide_eq_true e ▸ h, fun h => ⟨k, h, decide_eq_true rfl⟩⟩
theorem set_back {β : Type} {l : List β} {i : Nat} {x : β} (h : l[i]? = some x) : l.set i x = l := by
 obtain ⟨z, rfl⟩ := List.getElem?_eq_some_iff.mp h
 exact List.set_getElem_self z
theorem keys_putT {kvs : List (List Key × V)} {k : List Key} {v : V} : (putK kvs k v).map (·.1) = addT (kvs.map (·.1)) k := by
 unfold putK addT
 by_cases h : k ∈ kvs.map (·.1)
 · rw [if_pos (mem_any.mpr h), if_pos]
   · rw [List.map_map]
     refine List.map_congr_left fun p _ => ?_
     show (if p.1 = k then (p.1, v) else p).1 = p.1
     by_cases e : p.1 = k
     · rw [if_pos e]
     · rw [if_neg e]
   · obtain ⟨p, hp, e⟩ := List.mem_map.mp h
     exact List.any_eq_true.mpr ⟨p, hp, decide_eq_true e⟩
 · rw [if_neg fun z => h (mem_any.mp z), if_neg]
   · rw [List.map_append]; rfl
   · intro z
     obtain ⟨p, hp, e⟩ := List.any_eq_true.mp z
     exact h (List.mem_map.mpr ⟨p, hp, of_decide_eq_true e⟩)
theorem ownT {kvs : List (List Key × V)} : OwnO (.dT kvs) := fun _ => ⟨fun z => (nomatch z), fun _ z => (nomatch z)⟩
def tDisp1T (tk tv : TE) : TE := fun σ H Q => ∀ p, H p = none → tk σ (upd H p (.dT [])) fun y H1 => tv σ H1 fun v H2 => H2 p = some (.dT []) ∧ ∃ k b, y = .ref b ∧ H2 b = some (.tup (k.map kV)) ∧ Q (.ref p) (upd H2 p (.dT [(k, v)]))
theorem pe_disp1T {X : Cx} {pos : Pos} {e v : Expr} {tk tv : TE} (hu : X.A.units + 1 < cLine) (hk : PE X e tk) (hv : PE X v tv) : PE X (.Dict [some e] [v] pos) (tDisp1T tk tv) := by
 intro pins s σ H Q I q
 have hn := I.hok.fresh (Nat.le_refl s.heap.objs.size)
 have I1 := I.laid (a := s.heap.objs.size) (o := .dT []) (h' := s.heap.push { cls := .type "dict", data := .dict #[] }) (t' := s.toks) (fun _ _ q => Heap.get?_push_of_some _ q) (Nat.le_refl _) (dt_empty s.heap I.big)
 refine wpAny_Dict_any rfl rfl (by simp) (by simp) ?_
 refine pairTrees_cons_walk (thn (hk pins _ σ _ _ I1 (q _ hn)) fun u s1 ⟨y, H1, I1, ry, q1⟩ => thn (hv pins s1 σ H1 _ I1 q1) fun r s2 ⟨x, H2, I2, rx, e2, k, b, ey, eb, q2⟩ => pairTrees_nil_walk ?_)
 subst ey
 cases (show u = Value.ref b from ry)
 unfold storeAll
 rw [List.forIn_cons]
 obtain ⟨z, hd, xs, rel, dd⟩ := dt_of I2.hok e2
 cases rel
 refine wpAny_bind (wpAny_bind (wpAny_dictSet_heap (knd := tupleKind (mixKind X.prog X.w)) (show X.A.units < cLine by omega) (key_of I2.hok eb) dd fun h' dd' hs => wpAny_pure ?_))
 dsimp only
 rw [List.forIn_nil]
 obtain ⟨ob, es, ep, hq, h2, h3, h4, _, h5⟩ := dd'
 have new : ObjOk X.prog X.w (upd H2 s.heap.objs.size (.dT [(k, x)])) h' s.heap.objs.size (.dT [(k, x)]) := by
   refine ⟨by show 1 ≤ sizeLine; rw [sizeLine_eq]; omega, hd, [(k, b, r)], .cons ⟨rfl, ?_, rx⟩ .nil, ob, es, ep, hq, h2, h3, h4, h5⟩
   rw [upd_ne (ne_of eb e2 (fun z => nomatch z))]
   exact eb
 exact wpAny_pure ⟨.ref s.heap.objs.size, _, d_write I2 (by rw [e2]; exact True.intro) hs ⟨ob, hq⟩ new, rfl, q2⟩
section
variable {K : PySem.W.Frag} {O : Ob}
def newDT (i : Nat) : DS := fun Dd ρ => Dd.nx (ρ.set i (some (.thg (DctT []))))
theorem sd_newDT {i : Nat} : SD K O (tAsg tDNewT (gName i)) (newDT i) := fun H₀ A σ H ρ D Dd r q P => by
 intro p hp
 have st : Stp O H (upd H p (.dT [])) := .new r.ok hp _
 have hW : ∀ b, b = p → (A i b ∨ H b = Option.none) ∧ ∃ o, upd H p (.dT []) b = some o ∧ OwnO o := fun b e => by subst e; exact ⟨.inr hp, _, upd_same, ownT⟩
 exact P.nx _ _ _ _ (r.setT (W := fun b => b = p) (T := DctT []) st (fun b u e _ => e) hW ⟨p, [], rfl, rfl, upd_same, rfl⟩) (.setT st (fun b u e _ => e) fun b m => (hW b m).1) q
def putDT (i : Nat) (fa fb : DE) : DS := fun Dd ρ => ∃ ks, ρ[i]? = some (some (.thg (DctT ks))) ∧ fa ρ fun r1 => fb ρ fun r2 => ∃ k1 k2 : Key, r1.d = kD k1 ∧ r2.d = kD k2 ∧ ks.length < sizeLine ∧ Dd.nx (ρ.set i (some (.thg (DctT (addT ks [k1, k2])))))
theorem is_kD {F : Addr → Prop} {H : Hp} {v : V} {k : Key} (h : Is K F H v (kD k)) : v = kV k := by
 cases k <;> (cases h; rfl)
theorem sd_putDT {i : Nat} {ta tb : TE} {fa fb : DE} {b : Bool} (ha : ED K O ta fa) (hb : ED K O tb fb) : SD K O (sDPut (tVar i) (tTup (tCons ta (tCons tb tNil))) (tC (.bl b))) (putDT i fa fb) := fun H₀ A σ H ρ D Dd r q P => by
 obtain ⟨ks, e, q⟩ := q
 obtain ⟨v, hv, a, kvs, rfl, w, hH, hk⟩ := r.at_ i _ e
 refine ⟨_, hv, ?_⟩
 refine ha σ H ρ _ _ r.seen q fun x H1 r1 s1 o1 q1 => ?_
 refine hb σ H1 ρ _ _ (r.seen.stp s1) q1 fun y H2 r2 s2 o2 ⟨k1, k2, d1, d2, lt, q2⟩ => ?_
 have ix := o1.is r.ok r.p
 have iy := o2.is r.ok (s1.p r.p)
 rw [d1] at ix
 rw [d2] at iy
 obtain rfl := is_kD ix
 obtain rfl := is_kD iy
 refine ⟨by show 2 ≤ sizeLine; rw [sizeLine_eq]; omega, fun p hp => ?_⟩
 have m := (r.own i a w).2.2
 have st : Stp O H (upd H2 p (.tup [kV k1, kV k2])) := (s1.trans s2).trans (.new r.ok hp _)
 have hH2 : upd H2 p (.tup [kV k1, kV k2]) a = some (.dT kvs) := st.s a _ hH m
 have lk : kvs.length = ks.length := by rw [← hk, List.length_map]
 refine ⟨a, _, rfl, DPut.t (k := [k1, k2]) hH2 upd_same (by omega), ?_⟩
 have hW : ∀ c, c = a → (A i c ∨ H c = Option.none) ∧ ∃ o, upd (upd H2 p (.tup [kV k1, kV k2])) a (.dT (putK kvs [k1, k2] (.bl b))) c = some o ∧ OwnO o := fun c e => by subst e; exact ⟨.inl w, _, upd_same, ownT⟩
 have stay : ∀ c u, upd H2 p (.tup [kV k1, kV k2]) c = some u → ¬ A i c → upd (upd H2 p (.tup [kV k1, kV k2])) a (.dT (putK kvs [k1, k2] (.bl b))) c = some u := fun c u e n => by
   rw [upd_ne fun z => n (by rw [z]; exact w)]; exact e
 have rr := r.setT (i := i) (v := .ref a) (W := fun c => c = a) (T := DctT (addT ks [k1, k2])) st stay hW ⟨a, _, rfl, rfl, upd_same, by rw [keys_putT, hk]⟩
 rw [set_back hv] at rr
 exact P.nx _ _ _ _ rr (.setT st stay fun c m => (hW c m).1) q2
end
end L3
namespace L3
open PySem PySem.Spec
open PyProof.Rows hiding St
open L2
section
variable {K : PySem.W.Frag} {O : Ob} {H₀ H : Hp} {A : Nat → Addr → Prop} {σ : St} {ρ : DSt}
def oneDT (i : Nat) (fa fb : DE) : DS := fun Dd ρ => fa ρ fun r1 => fb ρ fun r2 => ∃ k1 k2 : Key, r1.d = kD k1 ∧ r2.d = kD k2 ∧ Dd.nx (ρ.set i (some (.thg (DctT [[k1, k2]]))))
theorem sd_oneDT {i : Nat} {ta tb : TE} {fa fb : DE} {b : Bool} (ha : ED K O ta fa) (hb : ED K O tb fb) : SD K O (tAsg (tDisp1T (tTup (tCons ta (tCons tb tNil))) (tC (.bl b))) (gName i)) (oneDT i fa fb) := fun H₀ A σ H ρ D Dd r q P => by
 intro c hc
 have s0 : Stp O H (upd H c (.dT [])) := .new r.ok hc _
 have m : ¬ O.M c := new_notM r.ok r.p hc
 refine ha σ _ ρ _ _ (r.seen.stp s0) q fun x H1 r1 s1 o1 q1 => ?_
 refine hb σ H1 ρ _ _ ((r.seen.stp s0).stp s1) q1 fun y H2 r2 s2 o2 ⟨k1, k2, d1, d2, q2⟩ => ?_
 have ix := o1.is r.ok (s0.p r.p)
 have iy := o2.is r.ok (s1.p (s0.p r.p))
 rw [d1] at ix
 rw [d2] at iy
 obtain rfl := is_kD ix
 obtain rfl := is_kD iy
 refine ⟨by show 2 ≤ sizeLine; rw [sizeLine_eq]; omega, fun p hp => ?_⟩
 have st' : Stp O (upd H c (.dT [])) (upd H2 p (.tup [kV k1, kV k2])) := (s1.trans s2).trans (.new r.ok hp _)
 have st : Stp O H (upd H2 p (.tup [kV k1, kV k2])) := s0.trans st'
 have hH2 : upd H2 p (.tup [kV k1, kV k2]) c = some (.dT []) := st'.s c _ upd_same m
 refine ⟨hH2, [k1, k2], p, rfl, upd_same, ?_⟩
 have hW : ∀ z, z = c → (A i z ∨ H z = Option.none) ∧ ∃ o, upd (upd H2 p (.tup [kV k1, kV k2])) c (.dT [([k1, k2], .bl b)]) z = some o ∧ OwnO o := fun z e => by subst e; exact ⟨.inr hc, _, upd_same, ownT⟩
 have stF : Stp O H (upd (upd H2 p (.tup [kV k1, kV k2])) c (.dT [([k1, k2], .bl b)])) := by
   refine ⟨fun z o e n => ?_, fun pp => r.ok.loc _ _ (fun z mz => upd_ne fun e => m (e ▸ mz)) (st.p pp), fun z u hu hz => ?_⟩
   · rw [upd_ne fun e' => by rw [e', hc] at e; cases e]; exact st.s z o e n
   · rw [upd_ne fun e' => by rw [e', hc] at hz; cases hz]; exact st.t z u hu hz
 exact P.nx _ _ _ _ (r.setT (W := fun z => z = c) (T := DctT [[k1, k2]]) stF (fun _ _ e _ => e) hW ⟨c, _, rfl, rfl, upd_same, rfl⟩) (.setT stF (fun _ _ e _ => e) fun z m => (hW z m).1) q2
theorem Rep.mov {n m : Nat} {v : V} {T : Thg} (r : Rep K O H₀ A H σ ρ) (e : ρ[m]? = some (some (.thg T))) (hv : σ[m]? = some (some v)) (ne : n ≠ m) :
   Rep K O H₀ (fun j b => (j ≠ n ∧ j ≠ m ∧ A j b) ∨ (j = n ∧ A m b)) H (σ.set n (some v)) ((ρ.set m Option.none).set n (some (.thg T))) := by
 have un : ∀ b, unO O A b → unO O (fun j b => (j ≠ n ∧ j ≠ m ∧ A j b) ∨ (j = n ∧ A m b)) b := fun b f => ⟨f.1, fun j z => by
   rcases z with z | z
   · exact f.2 j z.2.2
   · exact f.2 m z.2⟩
 have tF : ∀ b u, unO O A b → H b = some u → unO O (fun j b => (j ≠ n ∧ j ≠ m ∧ A j b) ∨ (j = n ∧ A m b)) b ∧ H b = some u := fun b u f q => ⟨un b f, q⟩
 have mv : ∀ {v d}, Is K (unO O A) H v d → Is K (unO O (fun j b => (j ≠ n ∧ j ≠ m ∧ A j b) ∨ (j = n ∧ A m b))) H v d := fun z => z.weak un
 have mvs : ∀ {v d}, IsAll K (unO O A) H v d → IsAll K (unO O (fun j b => (j ≠ n ∧ j ≠ m ∧ A j b) ∨ (j = n ∧ A m b))) H v d := fun z => z.weak un
 obtain ⟨v', hv', hT⟩ := r.at_ m _ e
 rw [hv] at hv'
 cases hv'
 refine ⟨r.ok, r.p, r.p0, r.st, fun j k b x y => ?_, fun j b x => ?_, fun j x ex => ?_, by rw [List.length_set, List.length_set, List.length_set]; exact r.len⟩
 · rcases x with x | x <;> rcases y with y | y
   · exact r.dis j k b x.2.2 y.2.2
   · exact absurd (r.dis j m b x.2.2 y.2) x.2.1
   · exact absurd (r.dis k m b y.2.2 x.2) y.2.1
   · exact x.1.trans y.1.symm
 · rcases x with x | x
   · exact r.own j b x.2.2
   · exact r.own m b x.2
 · by_cases hj : n = j
   · subst hj
     have hi : n < (ρ.set m Option.none).length := by
       rcases Nat.lt_or_ge n (ρ.set m Option.none).length with z | z
       · exact z
       · rw [List.getElem?_eq_none (by rw [List.length_set]; exact z)] at ex; cases ex
     rw [List.getElem?_set_self hi] at ex
     cases ex
     exact ⟨v, List.getElem?_set_self (by rw [List.length_set] at hi; have := r.len; omega), T.to (fun b u f q => tF b u f q) (fun b u w q => ⟨.inr ⟨rfl, w⟩, q⟩) (TupStay.refl _) hT⟩
   · rw [List.getElem?_set_ne hj] at ex
     have hjm : m ≠ j := fun z => by
       subst z
       rcases Nat.lt_or_ge m ρ.length with z | z
       · rw [List.getElem?_set_self z] at ex; cases ex
       · rw [List.getElem?_eq_none (by rw [List.length_set]; exact z)] at ex; cases ex
     rw [List.getElem?_set_ne hjm] at ex
     obtain ⟨w, h1, h2⟩ := r.at_ j x ex
     have aj : ∀ b, A j b → (j ≠ n ∧ j ≠ m ∧ A j b) ∨ (j = n ∧ A m b) := fun b z => .inl ⟨fun z => hj z.symm, fun z => hjm z.symm, z⟩
     refine ⟨w, by rw [List.getElem?_set_ne hj]; exact h1, ?_⟩
     cases x with
     | im d => exact mv h2
     | own es => obtain ⟨b, ys, e, hb, hlb, hs⟩ := h2; exact ⟨b, ys, e, aj b hb, hlb, mvs hs⟩
     | ob => exact h2
     | scr n => exact IsS.to (fun b u f q => tF b u f q) h2
     | dct ks => obtain ⟨b, hb, h2⟩ := h2; exact ⟨b, aj b hb, h2⟩
     | gen f ds => obtain ⟨b, xs, e, hb, q, z⟩ := h2; exact ⟨b, xs, e, aj b hb, q, mvs z⟩
     | rd f ds => obtain ⟨b, xs, e, hb, q, z⟩ := h2; exact ⟨b, xs, e, un b hb, q, mvs z⟩
     | exc C ns ds => obtain ⟨xs, e, z⟩ := h2; exact ⟨xs, e.to fun b u f q => tF b u f q, mvs z⟩
     | thg T => exact T.to (fun b u f q => tF b u f q) (fun b u w q => ⟨aj b w, q⟩) (TupStay.refl _) h2
     | thr T => obtain ⟨W', hw, z⟩ := h2; exact ⟨W', fun b w => let ⟨f, o⟩ := hw b w; ⟨un b f, o⟩, T.to (fun b u f q => tF b u f q) (fun b u w q => ⟨w, q⟩) (TupStay.refl _) z⟩
def movT (n m : Nat) : DS := fun Dd ρ => ∃ T, ρ[m]? = some (some (.thg T)) ∧ Dd.nx ((ρ.set m Option.none).set n (some (.thg T)))
theorem sd_movT {n m : Nat} (ne : n ≠ m) : SD K O (tAsg (tVar m) (gName n)) (movT n m) := fun H₀ A σ H ρ D Dd r q P => by
 obtain ⟨T, e, q⟩ := q
 obtain ⟨v, hv, _⟩ := r.at_ m _ e
 refine ⟨v, hv, ?_⟩
 refine P.nx _ _ _ _ (r.mov e hv ne) (fun b o e u => ⟨e, u.1, fun j z => ?_⟩) q
 rcases z with z | z
 · exact u.2 j z.2.2
 · exact u.2 m z.2
end
end L3
namespace L3
open PySem PySem.Spec
open PyProof.Rows hiding St
open L2
def keyD (k : List Key) : PyData := .tuple (k.map kD)
theorem lie_to {H H' : Hp} {xs : TK} (t : TupStay H H') (h : KLie H xs) : KLie H' xs := fun q hq => t _ _ ⟨_, .inl rfl⟩ (h q hq)
def DctF (P : Program) (w : World) (ks : List (List Key)) : Thg := ⟨fun _ _ W H v => ∃ a o xs, v = .ref a ∧ W a ∧ H a = some (stl a o) ∧ TObj P w a o xs ∧ KLie H xs ∧ xs.map (·.1) = ks,
 fun _ hW ts ⟨a, o, xs, e, z, q, t, l, k⟩ => ⟨a, o, xs, e, (hW a _ z q).1, (hW a _ z q).2, t, lie_to ts l, k⟩⟩
def tStill (P : Program) (w : World) (m : Nat) (t : TS) : TS := fun D σ H => ∃ a kvs, σ[m]? = some (some (.ref a)) ∧ H a = some (.dT kvs) ∧ ∀ o xs, TObj P w a o xs → KT H kvs xs → t D σ (upd H a (stl a o))
theorem ps_still {X : Cx} {st : Stmt} {t : TS} {m : Nat} (h : PS X st t) : PS X st (tStill X.prog X.w m t) := by
 intro pins s σ H D I hq
 obtain ⟨a, kvs, _, ha, hq⟩ := hq
 obtain ⟨o, xs, T, r, I1⟩ := inv_stillT I ha
 exact h pins s σ _ D I1 (hq o xs T r)
section
variable {K : PySem.W.Frag} {O : Ob} {H₀ H : Hp} {A : Nat → Addr → Prop} {σ : St} {ρ : DSt} {P : Program} {w : World}
theorem Rep.still {m : Nat} {a : Addr} {o : Obj} {kvs : List (List Key × V)} {xs : TK} {ks : List (List Key)} (r : Rep K O H₀ A H σ ρ) (hv : σ[m]? = some (some (.ref a))) (w1 : A m a) (ha : H a = some (.dT kvs)) (T : TObj P w a o xs) (l : KLie H xs) (hk : xs.map (·.1) = ks) :
   Rep K O H₀ (fun j b => j ≠ m ∧ A j b) (upd H a (stl a o)) σ (ρ.set m (some (.thr (DctF P w ks)))) ∧ Frm O A H (fun j b => j ≠ m ∧ A j b) (upd H a (stl a o)) := by
 obtain ⟨h0, _, nm⟩ := r.own m a w1
 have ne : ∀ b, unO O A b → b ≠ a := fun b f z => f.2 m (by rw [z]; exact w1)
 have un : ∀ b, unO O A b → unO O (fun j b => j ≠ m ∧ A j b) b := fun b f => ⟨f.1, fun j z => f.2 j z.2⟩
 have tF : ∀ b u, unO O A b → H b = some u → unO O (fun j b => j ≠ m ∧ A j b) b ∧ upd H a (stl a o) b = some u := fun b u f q => ⟨un b f, by rw [upd_ne (ne b f)]; exact q⟩
 have ts : TupStay H (upd H a (stl a o)) := fun b u hu hb => by
   rw [upd_ne fun z => ?_]
   · exact hb
   · rw [z, ha] at hb
     cases hb
     obtain ⟨us, e1 | ⟨o', e1⟩⟩ := hu <;> cases e1
 have oj : ∀ j b, j ≠ m → A j b → b ≠ a := fun j b hj z e => hj (r.dis j m b z (by rw [e]; exact w1))
 have mv : ∀ {v d}, Is K (unO O A) H v d → Is K (unO O (fun j b => j ≠ m ∧ A j b)) (upd H a (stl a o)) v d := fun z => z.to (fun b ys f q => tF b _ f q) fun b ys q => SqT.stay (h := q) ts
 have mvs : ∀ {v d}, IsAll K (unO O A) H v d → IsAll K (unO O (fun j b => j ≠ m ∧ A j b)) (upd H a (stl a o)) v d := fun z => z.to (fun b ys f q => tF b _ f q) fun b ys q => SqT.stay (h := q) ts
 refine ⟨⟨r.ok, r.ok.loc H _ (fun b mb => upd_ne fun z => nm (z ▸ mb)) r.p, r.p0, ⟨fun b u e n => ?_, fun _ => r.ok.loc H _ (fun b mb => upd_ne fun z => nm (z ▸ mb)) r.p, fun b u hu hb => ts b u hu (r.st.t b u hu hb)⟩, fun j k b x y => r.dis j k b x.2 y.2, fun j b x => ?_, fun j x e => ?_, by rw [List.length_set]; exact r.len⟩, fun b u e f => ⟨(tF b u f e).2, un b f⟩⟩
 · rw [upd_ne fun z => by rw [z, h0] at e; cases e]; exact r.st.s b u e n
 · obtain ⟨g1, ⟨u, g2, g3⟩, g4⟩ := r.own j b x.2
   exact ⟨g1, ⟨u, by rw [upd_ne (oj j b x.1 x.2)]; exact g2, g3⟩, g4⟩
 · by_cases hj : m = j
   · subst hj
     have hi : m < ρ.length := by
       rcases Nat.lt_or_ge m ρ.length with z | z
       · exact z
       · rw [List.getElem?_eq_none (by rw [List.length_set]; exact z)] at e; cases e
     rw [List.getElem?_set_self hi] at e
     cases e
     exact ⟨.ref a, hv, fun b => b = a, fun b e => by subst e; exact ⟨⟨nm, fun j z => z.1 (r.dis j m _ z.2 w1)⟩, _, upd_same⟩, a, o, xs, rfl, rfl, upd_same, T, lie_to ts l, hk⟩
   · rw [List.getElem?_set_ne hj] at e
     have hj' : j ≠ m := fun z => hj z.symm
     obtain ⟨v, h1, h2⟩ := r.at_ j x e
     refine ⟨v, h1, ?_⟩
     cases x with
     | im d => exact mv h2
     | own es => obtain ⟨b, ys, e, hb, hlb, hs⟩ := h2; exact ⟨b, ys, e, ⟨hj', hb⟩, by rw [upd_ne (oj j b hj' hb)]; exact hlb, mvs hs⟩
     | ob => exact h2
     | scr n => exact IsS.to (fun b u f q => tF b u f q) h2
     | dct ks => obtain ⟨b, hb, h2⟩ := h2; exact ⟨b, ⟨hj', hb⟩, h2.to fun u q => by rw [upd_ne (oj j b hj' hb)]; exact q⟩
     | gen f ds => obtain ⟨b, ys, e, hb, q, z⟩ := h2; exact ⟨b, ys, e, ⟨hj', hb⟩, by rw [upd_ne (oj j b hj' hb)]; exact q, mvs z⟩
     | rd f ds => obtain ⟨b, ys, e, hb, q, z⟩ := h2; exact ⟨b, ys, e, un b hb, (tF b _ hb q).2, mvs z⟩
     | exc C ns ds => obtain ⟨ys, e, z⟩ := h2; exact ⟨ys, e.to fun b u f q => tF b u f q, mvs z⟩
     | thg T => exact T.to (fun b u f q => tF b u f q) (fun b u w q => ⟨⟨hj', w⟩, by rw [upd_ne (oj j b hj' w)]; exact q⟩) ts h2
     | thr T => obtain ⟨W', hw, z⟩ := h2; exact ⟨W', fun b w => let ⟨f, o, q⟩ := hw b w; ⟨un b f, o, (tF b _ f q).2⟩, T.to (fun b u f q => tF b u f q) (fun b u w q => ⟨w, (tF b u (hw b w).1 q).2⟩) ts z⟩
def stillS (P : Program) (w : World) (m : Nat) (g : DS) : DS := fun Dd ρ => ∃ ks, ρ[m]? = some (some (.thg (DctT ks))) ∧ g Dd (ρ.set m (some (.thr (DctF P w ks))))
theorem sd_still {m : Nat} {t : TS} {g : DS} (h : SD K O t g) : SD K O (tStill P w m t) (stillS P w m g) := fun H₀ A σ H ρ D Dd r q Po => by
 obtain ⟨ks, e, q⟩ := q
 obtain ⟨v, hv, a, kvs, rfl, w1, ha, hk⟩ := r.at_ m _ e
 refine ⟨a, kvs, hv, ha, fun o xs T kt => ?_⟩
 obtain ⟨r1, f1⟩ := r.still hv w1 ha T (lie_of kt) ((kt_keys kt).trans hk)
 exact h H₀ _ σ _ _ D Dd r1 q (Po.frm f1)
theorem is_keys : ∀ {F : Addr → Prop} {k : List Key}, IsAll K F H (k.map kV) (k.map kD)
 | F, [] => .nil
 | F, .inl i :: k => .cons (.int i) is_keys
 | F, .inr x :: k => .cons (.str x) is_keys
theorem walk_dT {a : Addr} {o : Obj} {xs : TK} (hm : ¬ O.M a) (ha : H a = some (stl a o)) (l : KLie H xs) : Walk K O H H (Itt a o xs) ((xs.map (·.1)).map keyD) (fun b => b = a) := by
 refine ⟨.refl _ _, fun b hb => by subst hb; exact ⟨hm, _, ha⟩, fun H2 i kb _ hi => ?_, fun H2 i d kb t2 hd c => ?_⟩
 · exact ⟨by simpa using hi, kb a _ rfl ha⟩
 · rw [List.map_map, List.getElem?_map] at hd
   obtain ⟨q, hq, rfl⟩ := Option.map_eq_some_iff.mp hd
   refine ⟨⟨(List.getElem?_eq_some_iff.mp hq).1, kb a _ rfl ha⟩, fun x H3 ⟨e3, p, hp, hx⟩ => ?_⟩
   rw [hq] at hp
   cases hp
   subst e3 hx
   exact ⟨Same.refl _, .tuple (.of (t2 _ _ ⟨_, .inl rfl⟩ (l q (List.mem_of_getElem? hq)))) is_keys⟩
def stillJ (P : Program) (w : World) (m : Nat) : DJ := fun ρ Q => ∃ ks, ρ[m]? = some (some (.thr (DctF P w ks))) ∧ Q (ks.map keyD)
theorem srcR_still {m : Nat} : SrcR K O (iDT P w (tVar m)) (stillJ P w m) := fun H₀ A σ H ρ R Qd r q k => by
 obtain ⟨ks, e, q⟩ := q
 obtain ⟨v, hv, W, hw, a, o, xs, rfl, wa, ha, T, l, rfl⟩ := r.at_ m _ e
 exact ⟨_, hv, a, o, xs, rfl, ha, T, k _ _ _ (fun b => b = a) (walk_dT (hw a wa).1.1 ha l) (fun b z => by subst z; exact (hw _ wa).1) q⟩
def stillI (P : Program) (w : World) (m : Nat) : DI := fun ρ Q => ∃ ks, ρ[m]? = some (some (.thr (DctF P w ks))) ∧ Q false (ks.map keyD)
theorem srcS_still {m : Nat} : SrcS K O (iDT P w (tVar m)) (stillI P w m) := fun σ H ρ R Qd S q k => by
 obtain ⟨ks, e, q⟩ := q
 obtain ⟨v, hv, W, hw, a, o, xs, rfl, wa, ha, T, l, rfl⟩ := S.at_ m _ e
 exact ⟨_, hv, a, o, xs, rfl, ha, T, k _ _ _ (fun b => b = a) false (walk_dT (hw a wa).1 ha l) (fun z => by cases z) q⟩
end
end L3
namespace L3
open PySem PySem.Spec
open PyProof.Rows hiding St
open L2
section
variable {ι κ : Type} {P : Program} {w : World} {K : PySem.W.Frag} {mg : Str → Option Value} {base : Heap} {k : Nat} {X : ι → Cx} {O : κ → Ob} {st : Stmt} {g : DS} {pos px py p1 p2 p3 : Pos} {x y : Str} {a b tg : Expr} {fa fb : DE} {v : Bool} {j : Nat}
theorem s_newDT (n : Nat) (hN : ∀ i, (X i).N.Nodup := by intro i; exact of_decide_eq_true (by kernel_rfl)) (hi : ∀ i, (X i).N[n]? = some x := by intro i; rfl) (hx : ∀ i, Loc (X i).env.scope x := by intro i; first | exact Or.inl rfl | exact Or.inr rfl)
   (hs : ∀ i, swapsWith (.Dict [] [] p1) (some (.Name x px)) pos.line (X i).env = pure false := by intro i; rfl) (hf : ∀ i, (X i).fn x = true ∨ (X i).env.scope.names.lookup x = some .local := by intro i; first | exact .inl rfl | exact .inr rfl) :
   S3 K X O (.Assign [.Name x px] (.Dict [] [] p1) pos) (newDT n) := ⟨_, fun i => ps_set (hN i) (hi i) (hx i) pe_dnewT (hs i) (hf i), fun j => sd_newDT⟩
theorem s_oneDT (n : Nat) {c : _} (C : Ctx3 P w K mg base k X) (ha : E3 K X O a fa) (hb : E3 K X O b fb) (hN : ∀ i, (X i).N.Nodup := by intro i; exact of_decide_eq_true (by kernel_rfl)) (hi : ∀ i, (X i).N[n]? = some x := by intro i; rfl) (hx : ∀ i, Loc (X i).env.scope x := by intro i; first | exact Or.inl rfl | exact Or.inr rfl)
   (hs : ∀ i, swapsWith (.Dict [some (.Tuple [a, b] c p3)] [.Constant (.bool v) j p2] p1) (some (.Name x px)) pos.line (X i).env = pure false := by intro i; rfl) (hf : ∀ i, (X i).fn x = true ∨ (X i).env.scope.names.lookup x = some .local := by intro i; first | exact .inl rfl | exact .inr rfl)
   (h1 : ∀ i, starEach [a, b] (X i).env = (false, eval a (X i).env) :: starEach [b] (X i).env := by intro i; rfl) (h2 : ∀ i, starEach [b] (X i).env = (false, eval b (X i).env) :: starEach [] (X i).env := by intro i; rfl) :
   S3 K X O (.Assign [.Name x px] (.Dict [some (.Tuple [a, b] c p3)] [.Constant (.bool v) j p2] p1) pos) (oneDT n fa fb) :=
 let ⟨_, q1, d1⟩ := ha; let ⟨_, q2, d2⟩ := hb; ⟨_, fun i => ps_set (hN i) (hi i) (hx i) (pe_disp1T (hu_of (C.room i)) (pe_tup (pa_cons (q1 i) (pa_cons (q2 i) pa_nil (h2 i)) (h1 i))) pe_bl) (hs i) (hf i), fun j => sd_oneDT (d1 j) (d2 j)⟩
theorem s_putDT (n : Nat) {c : _} (C : Ctx3 P w K mg base k X) (ha : E3 K X O a fa) (hb : E3 K X O b fb) (hN : ∀ i, (X i).N[n]? = some x := by intro i; rfl) (hv : ∀ i, Vis (X i).env.scope x := by intro i; first | exact Or.inl rfl | exact Or.inr (Or.inl rfl) | exact Or.inr (Or.inr rfl))
   (hd : (x == ("__debug__" : Str)) = false := by decide) (hcd : (x == ("__classdict__" : Str)) = false := by decide) (hs : ∀ i, swapsWith (.Constant (.bool v) j p2) (some (.Subscript (.Name x px) (.Tuple [a, b] c p3) p1)) pos.line (X i).env = pure false := by intro i; rfl)
   (h1 : ∀ i, starEach [a, b] (X i).env = (false, eval a (X i).env) :: starEach [b] (X i).env := by intro i; rfl) (h2 : ∀ i, starEach [b] (X i).env = (false, eval b (X i).env) :: starEach [] (X i).env := by intro i; rfl) :
   S3 K X O (.Assign [.Subscript (.Name x px) (.Tuple [a, b] c p3) p1] (.Constant (.bool v) j p2) pos) (putDT n fa fb) :=
 let ⟨_, q1, d1⟩ := ha; let ⟨_, q2, d2⟩ := hb; ⟨_, fun i => ps_dput (hu_of (C.room i)) (pe_var (hN i) (hv i) hd hcd) (pe_tup (pa_cons (q1 i) (pa_cons (q2 i) pa_nil (h2 i)) (h1 i))) pe_bl (hs i), fun j => sd_putDT (d1 j) (d2 j)⟩
theorem s_movT (n m : Nat) (ne : n ≠ m := by decide) (hN : ∀ i, (X i).N.Nodup := by intro i; exact of_decide_eq_true (by kernel_rfl)) (hi : ∀ i, (X i).N[n]? = some x := by intro i; rfl) (hx : ∀ i, Loc (X i).env.scope x := by intro i; first | exact Or.inl rfl | exact Or.inr rfl)
   (hN2 : ∀ i, (X i).N[m]? = some y := by intro i; rfl) (hv : ∀ i, Vis (X i).env.scope y := by intro i; first | exact Or.inl rfl | exact Or.inr (Or.inl rfl) | exact Or.inr (Or.inr rfl)) (hd : (y == ("__debug__" : Str)) = false := by decide) (hcd : (y == ("__classdict__" : Str)) = false := by decide)
   (hs : ∀ i, swapsWith (.Name y py) (some (.Name x px)) pos.line (X i).env = pure false := by intro i; rfl) (hf : ∀ i, (X i).fn x = true ∨ (X i).env.scope.names.lookup x = some .local := by intro i; first | exact .inl rfl | exact .inr rfl) : S3 K X O (.Assign [.Name x px] (.Name y py) pos) (movT n m) :=
 ⟨_, fun i => ps_set (hN i) (hi i) (hx i) (pe_var (hN2 i) (hv i) hd hcd) (hs i) (hf i), fun j => sd_movT ne⟩
theorem s_still (m : Nat) (C : Ctx3 P w K mg base k X) (h : S3 K X O st g) : S3 K X O st (stillS P w m g) :=
 let ⟨t, q, d⟩ := h; ⟨tStill P w m t, fun i => by have z := ps_still (m := m) (q i); rw [C.hP, C.hw] at z; exact z, fun j => sd_still (d j)⟩
theorem j_still (C : Ctx3 P w K mg base k X) (n : Nat) (hN : ∀ i, (X i).N[n]? = some x := by intro i; rfl) (hv : ∀ i, Vis (X i).env.scope x := by intro i; first | exact Or.inl rfl | exact Or.inr (Or.inl rfl) | exact Or.inr (Or.inr rfl)) (hd : (x == ("__debug__" : Str)) = false := by decide) (hcd : (x == ("__classdict__" : Str)) = false := by decide) :
   J3 K X O tg (.Name x pos) (stillJ P w n) := ⟨iDT P w (tVar n), fun i => by have h := pi_dT (tg := tg) (X := X i) (pe_var (pos := pos) (hN i) (hv i) hd hcd); rw [C.hP, C.hw] at h; exact h, fun j => srcR_still⟩
theorem i_still (C : Ctx3 P w K mg base k X) (n : Nat) (hN : ∀ i, (X i).N[n]? = some x := by intro i; rfl) (hv : ∀ i, Vis (X i).env.scope x := by intro i; first | exact Or.inl rfl | exact Or.inr (Or.inl rfl) | exact Or.inr (Or.inr rfl)) (hd : (x == ("__debug__" : Str)) = false := by decide) (hcd : (x == ("__classdict__" : Str)) = false := by decide) :
   I3 K X O tg (.Name x pos) (stillI P w n) := ⟨iDT P w (tVar n), fun i => by have h := pi_dT (tg := tg) (X := X i) (pe_var (pos := pos) (hN i) (hv i) hd hcd); rw [C.hP, C.hw] at h; exact h, fun j => srcS_still⟩
end
end L3
namespace L6
open PySem PyProof.Rows
def gallop' : Bool → Keyed → Array Keyed → Nat → Nat → Nat → StateT SortSt Sem (Option Nat) := sortPriv% PySem.Builtin.gallop
section
variable {prog : Program} {w : World} {A : Around} {E : Value → Shared → Prop} {s : Shared} {α : Type} {blt : α → α → Bool} {k : Nat → α} {a₀ : Array Keyed} {kd : SortKind} {st : SortSt}
theorem lt_x {i j : Nat} {x y : Keyed} {Q : Option Bool → SortSt → Prop} (hC : CmpOk prog w A s kd a₀ blt k) (ki : kindOf st = kd) (gi : a₀[i]? = some x) (gj : a₀[j]? = some y) (h : Q (some (blt (k i) (k j))) st) : wpS (model prog w) A E s (lt' x y) Q st := by
 rw [lt'_eq]
 refine wpS_bind (wpS_get ?_)
 rw [ki]
 refine wpS_bind (wpS_lift (wpAny_attempt (hC i j x.1 x.2 y.1 y.2 _ _ gi gj ⟨rfl, ?_⟩)))
 exact wpS_pure h
theorem elem_x {arr : Array Keyed} {i : Nat} {x : Keyed} {Q : Keyed → SortSt → Prop} (e : arr[i]? = some x) (h : Q x st) : wpS (model prog w) A E s (elem' arr i) Q st := by
 rw [elem'_eq, e]
 exact wpS_pure h
def Pg (blt : α → α → Bool) (k : Nat → α) (left : Bool) (L : Nat → Nat) (jk i : Nat) : Bool := if left then blt (k (L i)) (k jk) else !blt (k jk) (k (L i))
theorem gal_st {left : Bool} {key : Keyed} {arr : Array Keyed} {base n hint jk : Nat} {L : Nat → Nat} {Q : Option Nat → SortSt → Prop} (hC : CmpOk prog w A s kd a₀ blt k) (ki : kindOf st = kd) (gk : a₀[jk]? = some key) (ga : ∀ i, i < n → ∃ x, arr[base + i]? = some x ∧ a₀[L i]? = some x) (mono : ∀ i j, i < j → j < n → Pg blt k left L jk j = true → Pg blt k left L jk i = true) (hh : hint < n)
   (h : ∀ p, p ≤ n → (∀ i, i < p → Pg blt k left L jk i = true) → (∀ i, p ≤ i → i < n → Pg blt k left L jk i = false) → Q (some p) st) : wpS (model prog w) A E s (gallop' left key arr base n hint) Q st := by
 have bey : ∀ (i : Nat) {R : Option Bool → SortSt → Prop}, i < n → R (some (Pg blt k left L jk i)) st → wpS (model prog w) A E s (elem' arr (base + i) >>= fun x => if left = true then lt' x key else (do let r ← lt' key x; return r.map (!·))) R st := fun i R hi hr => by
   obtain ⟨x, e1, e2⟩ := ga i hi
   refine wpS_bind (elem_x e1 ?_)
   unfold Pg at hr
   cases left with
   | true => rw [if_pos rfl] at hr ⊢; exact lt_x hC ki e2 gk hr
   | false => rw [if_neg Bool.false_ne_true] at hr ⊢; exact wpS_bind (lt_x hC ki gk e2 (wpS_pure hr))
 refine wpS_bind (bey hint hh ?_)
 dsimp only
 cases h0 : Pg blt k left L jk hint with
 | true =>
   rw [if_pos rfl]
   refine wpS_bind (wpS_mono (wpS_forRange (I := fun x c st2 => st = st2 ∧ ∃ l o, c = (none, l, o) ∧ x ≤ o ∧ l < o ∧ (l = 0 ∨ hint + l < n) ∧ (∀ i, i ≤ hint + l → i < n → Pg blt k left L jk i = true))
     (Q := fun c st2 => st = st2 ∧ ∃ l o, c = (none, l, o) ∧ l < o ∧ (l = 0 ∨ hint + l < n) ∧ (∀ i, i ≤ hint + l → i < n → Pg blt k left L jk i = true) ∧ ∀ i, hint + o ≤ i → i < n → Pg blt k left L jk i = false) ?tu ?ou ?bg) ?re)
   case bg => exact ⟨rfl, 0, 1, rfl, by omega, by omega, .inl rfl, fun i hi hn => by
     by_cases e : i = hint
     · subst e; exact h0
     · exact mono i hint (by omega) hh h0⟩
   case ou =>
     rintro c st2 ⟨rfl, l, o, rfl, z1, z2, z3, z4⟩
     exact ⟨rfl, l, o, rfl, z2, z3, z4, fun i h1 h2 => by omega⟩
   case re =>
     rintro c st2 ⟨rfl, l, o, rfl, z2, z3, z4, z5⟩
     dsimp only
     have b1 : hint + l + 1 ≤ hint + min o (n - hint) := by omega
     have b2 : hint + min o (n - hint) ≤ n := by omega
     have b3 : ∀ i, i < hint + l + 1 → Pg blt k left L jk i = true := fun i hi => z4 i (by omega) (by omega)
     have b4 : ∀ i, hint + min o (n - hint) ≤ i → i < n → Pg blt k left L jk i = false := fun i h1 h2 => z5 i (by omega) h2
     refine wpS_bind (wpS_mono (wpS_forRange (I := fun x c st2 => st = st2 ∧ ∃ l r, c = (none, l, r) ∧ l ≤ r ∧ r ≤ n ∧ r - l ≤ n - x ∧ (∀ i, i < l → Pg blt k left L jk i = true) ∧ ∀ i, r ≤ i → i < n → Pg blt k left L jk i = false)
       (Q := fun c st2 => st = st2 ∧ ∃ l r, c = (none, l, r) ∧ r ≤ n ∧ (∀ i, i < r → Pg blt k left L jk i = true) ∧ ∀ i, r ≤ i → i < n → Pg blt k left L jk i = false) ?tu2 ?ou2 ?bg2) ?re2)
     case bg2 => exact ⟨rfl, _, _, rfl, b1, b2, by omega, b3, b4⟩
     case ou2 =>
       rintro c st2 ⟨rfl, l, r, rfl, z1, z2, z3, z4, z5⟩
       have : l = r := by omega
       subst this
       exact ⟨rfl, l, l, rfl, z2, z4, z5⟩
     case re2 =>
       rintro c st2 ⟨rfl, l, r, rfl, z2, z4, z5⟩
       exact wpS_pure (h r z2 z4 z5)
     case tu2 =>
       rintro x c st2 _ hx ⟨rfl, l, r, rfl, z1, z2, z3, z4, z5⟩
       dsimp only
       by_cases ge : l ≥ r
       · rw [if_pos ge]
         have : l = r := by omega
         subst this
         exact wpS_pure ⟨rfl, l, l, rfl, z2, z4, z5⟩
       · rw [if_neg ge]
         refine wpS_bind (bey (l + (r - l) / 2) (by omega) ?_)
         dsimp only
         cases hP : Pg blt k left L jk (l + (r - l) / 2) with
         | true =>
           rw [if_pos rfl]
           refine wpS_pure ⟨rfl, l + (r - l) / 2 + 1, r, rfl, by omega, z2, by omega, fun i hi => ?_, z5⟩
           by_cases e : i = l + (r - l) / 2
           · subst e; exact hP
           · exact mono i _ (show i < l + (r - l) / 2 by omega) (by omega) hP
         | false =>
           rw [if_neg Bool.false_ne_true]
           refine wpS_pure ⟨rfl, l, l + (r - l) / 2, rfl, by omega, by omega, by omega, z4, fun i h1 h2 => ?_⟩
           by_cases e : i = l + (r - l) / 2
           · subst e; exact hP
           · cases hq : Pg blt k left L jk i with
             | false => rfl
             | true => rw [mono _ i (show l + (r - l) / 2 < i by omega) h2 hq] at hP; cases hP
   case tu =>
     rintro x c st2 _ hx ⟨rfl, l, o, rfl, z1, z2, z3, z4⟩
     dsimp only
     by_cases ge : o ≥ n - hint
     · rw [if_pos ge]
       exact wpS_pure ⟨rfl, l, o, rfl, z2, z3, z4, fun i h1 h2 => by omega⟩
     · rw [if_neg ge]
       refine wpS_bind (bey (hint + o) (by omega) ?_)
       dsimp only
       cases hP : Pg blt k left L jk (hint + o) with
       | true =>
         rw [if_neg (by decide)]
         refine wpS_pure ⟨rfl, o, 2 * o + 1, rfl, by omega, by omega, .inr (by omega), fun i h1 h2 => ?_⟩
         by_cases e : i = hint + o
         · subst e; exact hP
         · exact mono i _ (show i < hint + o by omega) (by omega) hP
       | false =>
         rw [if_pos (by decide)]
         refine wpS_pure ⟨rfl, l, o, rfl, z2, z3, z4, fun i h1 h2 => ?_⟩
         by_cases e : i = hint + o
         · subst e; exact hP
         · cases hq : Pg blt k left L jk i with
           | false => rfl
           | true => rw [mono _ i (show hint + o < i by omega) h2 hq] at hP; cases hP
 | false =>
   rw [if_neg Bool.false_ne_true]
   refine wpS_bind (wpS_mono (wpS_forRange (I := fun x c st2 => st = st2 ∧ ∃ l o, c = (none, l, o) ∧ x ≤ o ∧ l < o ∧ l ≤ hint ∧ (∀ i, hint - l ≤ i → i < n → Pg blt k left L jk i = false))
     (Q := fun c st2 => st = st2 ∧ ∃ l o, c = (none, l, o) ∧ l < o ∧ l ≤ hint ∧ (∀ i, hint - l ≤ i → i < n → Pg blt k left L jk i = false) ∧ ∀ i, o ≤ hint → i ≤ hint - o → Pg blt k left L jk i = true) ?tu ?ou ?bg) ?re)
   case bg => exact ⟨rfl, 0, 1, rfl, by omega, by omega, by omega, fun i hi hn => by
     by_cases e : i = hint
     · subst e; exact h0
     · cases hq : Pg blt k left L jk i with
       | false => rfl
       | true => rw [mono hint i (by omega) hn hq] at h0; cases h0⟩
   case ou =>
     rintro c st2 ⟨rfl, l, o, rfl, z1, z2, z3, z4⟩
     exact ⟨rfl, l, o, rfl, z2, z3, z4, fun i h1 h2 => by omega⟩
   case re =>
     rintro c st2 ⟨rfl, l, o, rfl, z2, z3, z4, z5⟩
     dsimp only
     have b1 : hint + 1 - min o (hint + 1) ≤ hint - l := by omega
     have b2 : hint - l ≤ n := by omega
     have b3 : ∀ i, i < hint + 1 - min o (hint + 1) → Pg blt k left L jk i = true := fun i hi => z5 i (by omega) (by omega)
     have b4 : ∀ i, hint - l ≤ i → i < n → Pg blt k left L jk i = false := z4
     refine wpS_bind (wpS_mono (wpS_forRange (I := fun x c st2 => st = st2 ∧ ∃ l r, c = (none, l, r) ∧ l ≤ r ∧ r ≤ n ∧ r - l ≤ n - x ∧ (∀ i, i < l → Pg blt k left L jk i = true) ∧ ∀ i, r ≤ i → i < n → Pg blt k left L jk i = false)
       (Q := fun c st2 => st = st2 ∧ ∃ l r, c = (none, l, r) ∧ r ≤ n ∧ (∀ i, i < r → Pg blt k left L jk i = true) ∧ ∀ i, r ≤ i → i < n → Pg blt k left L jk i = false) ?tu2 ?ou2 ?bg2) ?re2)
     case bg2 => exact ⟨rfl, _, _, rfl, b1, b2, by omega, b3, b4⟩
     case ou2 =>
       rintro c st2 ⟨rfl, l, r, rfl, z1, z2, z3, z4, z5⟩
       have : l = r := by omega
       subst this
       exact ⟨rfl, l, l, rfl, z2, z4, z5⟩
     case re2 =>
       rintro c st2 ⟨rfl, l, r, rfl, z2, z4, z5⟩
       exact wpS_pure (h r z2 z4 z5)
     case tu2 =>
       rintro x c st2 _ hx ⟨rfl, l, r, rfl, z1, z2, z3, z4, z5⟩
       dsimp only
       by_cases ge : l ≥ r
       · rw [if_pos ge]
         have : l = r := by omega
         subst this
         exact wpS_pure ⟨rfl, l, l, rfl, z2, z4, z5⟩
       · rw [if_neg ge]
         refine wpS_bind (bey (l + (r - l) / 2) (by omega) ?_)
         dsimp only
         cases hP : Pg blt k left L jk (l + (r - l) / 2) with
         | true =>
           rw [if_pos rfl]
           refine wpS_pure ⟨rfl, l + (r - l) / 2 + 1, r, rfl, by omega, z2, by omega, fun i hi => ?_, z5⟩
           by_cases e : i = l + (r - l) / 2
           · subst e; exact hP
           · exact mono i _ (show i < l + (r - l) / 2 by omega) (by omega) hP
         | false =>
           rw [if_neg Bool.false_ne_true]
           refine wpS_pure ⟨rfl, l, l + (r - l) / 2, rfl, by omega, by omega, by omega, z4, fun i h1 h2 => ?_⟩
           by_cases e : i = l + (r - l) / 2
           · subst e; exact hP
           · cases hq : Pg blt k left L jk i with
             | false => rfl
             | true => rw [mono _ i (show l + (r - l) / 2 < i by omega) h2 hq] at hP; cases hP
   case tu =>
     rintro x c st2 _ hx ⟨rfl, l, o, rfl, z1, z2, z3, z4⟩
     dsimp only
     by_cases ge : o ≥ hint + 1
     · rw [if_pos ge]
       exact wpS_pure ⟨rfl, l, o, rfl, z2, z3, z4, fun i h1 h2 => by omega⟩
     · rw [if_neg ge]
       refine wpS_bind (bey (hint - o) (by omega) ?_)
       dsimp only
       cases hP : Pg blt k left L jk (hint - o) with
       | true =>
         rw [if_pos rfl]
         refine wpS_pure ⟨rfl, l, o, rfl, z2, z3, z4, fun i h1 h2 => ?_⟩
         by_cases e : i = hint - o
         · subst e; exact hP
         · exact mono i _ (show i < hint - o by omega) (by omega) hP
       | false =>
         rw [if_neg Bool.false_ne_true]
         refine wpS_pure ⟨rfl, o, 2 * o + 1, rfl, by omega, by omega, by omega, fun i h1 h2 => ?_⟩
         by_cases e : i = hint - o
         · subst e; exact hP
         · cases hq : Pg blt k left L jk i with
           | false => rfl
           | true => rw [mono _ i (show hint - o < i by omega) h2 hq] at hP; cases hP
end
end L6
namespace L6
section
variable {α : Type} {blt : α → α → Bool} {k : Nat → α}
def mg (blt : α → α → Bool) (k : Nat → α) : List Nat → List Nat → List Nat
 | [], bs => bs
 | as, [] => as
 | a :: as, b :: bs => if blt (k b) (k a) = true then b :: mg blt k (a :: as) bs else a :: mg blt k as (b :: bs)
termination_by as bs => as.length + bs.length
theorem mg_nil (bs : List Nat) : mg blt k [] bs = bs := by rw [mg]
theorem mg_nil2 (as : List Nat) : mg blt k as [] = as := by cases as <;> rw [mg]; simp
theorem mg_b {a b : Nat} {as bs : List Nat} (h : blt (k b) (k a) = true) : mg blt k (a :: as) (b :: bs) = b :: mg blt k (a :: as) bs := by rw [mg, if_pos h]
theorem mg_a {a b : Nat} {as bs : List Nat} (h : blt (k b) (k a) = false) : mg blt k (a :: as) (b :: bs) = a :: mg blt k as (b :: bs) := by rw [mg, if_neg (by rw [h]; exact Bool.false_ne_true)]
theorem mg_as {b : Nat} {bs : List Nat} : ∀ {xs as : List Nat}, (∀ x ∈ xs, blt (k b) (k x) = false) → mg blt k (xs ++ as) (b :: bs) = xs ++ mg blt k as (b :: bs)
 | [], as, h => rfl
 | x :: xs, as, h => by rw [List.cons_append, mg_a (h x (by simp)), mg_as fun y hy => h y (by simp [hy])]; rfl
theorem mg_bs {a : Nat} {as : List Nat} : ∀ {ys bs : List Nat}, (∀ y ∈ ys, blt (k y) (k a) = true) → mg blt k (a :: as) (ys ++ bs) = ys ++ mg blt k (a :: as) bs
 | [], bs, h => rfl
 | y :: ys, bs, h => by rw [List.cons_append, mg_b (h y (by simp)), mg_bs fun z hz => h z (by simp [hz])]; rfl
theorem mg_one {a : Nat} {ys : List Nat} (h : ∀ y ∈ ys, blt (k y) (k a) = true) : mg blt k [a] ys = ys ++ [a] := by
 have := mg_bs (as := []) (bs := []) h
 rw [List.append_nil, mg_nil2] at this
 exact this
theorem mg_aE {ws : List Nat} : ∀ (n : Nat) (xs ys : List Nat), xs.length + ys.length = n → (∀ w ∈ ws, ∀ y ∈ ys, blt (k y) (k w) = true) → mg blt k (xs ++ ws) ys = mg blt k xs ys ++ ws := by
 intro n
 induction n with
 | zero =>
   intro xs ys hn h
   have : xs = [] := List.eq_nil_of_length_eq_zero (by omega)
   have : ys = [] := List.eq_nil_of_length_eq_zero (by omega)
   subst xs; subst ys
   rw [mg_nil2, mg_nil2]
 | succ n ih =>
   intro xs ys hn h
   cases ys with
   | nil => rw [mg_nil2, mg_nil2]
   | cons y ys =>
     cases xs with
     | nil =>
       rw [mg_nil, List.nil_append]
       cases ws with
       | nil => rw [mg_nil, List.append_nil]
       | cons w ws =>
         have := mg_bs (blt := blt) (k := k) (as := ws) (bs := []) (h w (by simp))
         rw [List.append_nil, mg_nil2] at this
         exact this
     | cons x xs =>
       simp only [List.length_cons] at hn
       rw [List.cons_append]
       cases e : blt (k y) (k x) with
       | true =>
         rw [mg_b e, mg_b e, List.cons_append, ← List.cons_append, ih (x :: xs) ys (by simp only [List.length_cons]; omega) fun w hw z hz => h w hw z (by simp [hz])]
       | false => rw [mg_a e, mg_a e, List.cons_append, ih xs (y :: ys) (by simp only [List.length_cons]; omega) h]
theorem mg_aEnd {xs ws ys : List Nat} (h : ∀ w ∈ ws, ∀ y ∈ ys, blt (k y) (k w) = true) : mg blt k (xs ++ ws) ys = mg blt k xs ys ++ ws := mg_aE _ xs ys rfl h
theorem mg_bE {zs : List Nat} : ∀ (n : Nat) (xs ys : List Nat), xs.length + ys.length = n → (∀ z ∈ zs, ∀ x ∈ xs, blt (k z) (k x) = false) → mg blt k xs (ys ++ zs) = mg blt k xs ys ++ zs := by
 intro n
 induction n with
 | zero =>
   intro xs ys hn h
   have : xs = [] := List.eq_nil_of_length_eq_zero (by omega)
   have : ys = [] := List.eq_nil_of_length_eq_zero (by omega)
   subst xs; subst ys
   rw [mg_nil, mg_nil]
 | succ n ih =>
   intro xs ys hn h
   cases xs with
   | nil => rw [mg_nil, mg_nil]
   | cons x xs =>
     cases ys with
     | nil =>
       rw [mg_nil2, List.nil_append]
       cases zs with
       | nil => rw [mg_nil2, List.append_nil]
       | cons z zs =>
         have := mg_as (blt := blt) (k := k) (bs := zs) (as := []) (h z (by simp))
         rw [List.append_nil, mg_nil] at this
         exact this
     | cons y ys =>
       simp only [List.length_cons] at hn
       rw [List.cons_append]
       cases e : blt (k y) (k x) with
       | true => rw [mg_b e, mg_b e, List.cons_append, ih (x :: xs) ys (by simp only [List.length_cons]; omega) h]
       | false => rw [mg_a e, mg_a e, List.cons_append, ← List.cons_append, ih xs (y :: ys) (by simp only [List.length_cons]; omega) fun z hz w hw => h z hz w (by simp [hw])]
theorem mg_bEnd {xs ys zs : List Nat} (h : ∀ z ∈ zs, ∀ x ∈ xs, blt (k z) (k x) = false) : mg blt k xs (ys ++ zs) = mg blt k xs ys ++ zs := mg_bE _ xs ys rfl h
theorem mg_perm : ∀ (n : Nat) (xs ys : List Nat), xs.length + ys.length = n → (mg blt k xs ys).Perm (xs ++ ys) := by
 intro n
 induction n with
 | zero =>
   intro xs ys hn
   have : xs = [] := List.eq_nil_of_length_eq_zero (by omega)
   subst xs
   rw [mg_nil]; exact .refl _
 | succ n ih =>
   intro xs ys hn
   cases xs with
   | nil => rw [mg_nil]; exact .refl _
   | cons x xs =>
     cases ys with
     | nil => rw [mg_nil2, List.append_nil]
     | cons y ys =>
       simp only [List.length_cons] at hn
       cases e : blt (k y) (k x) with
       | true =>
         rw [mg_b e]
         refine .trans (.cons y (ih (x :: xs) ys (by simp only [List.length_cons]; omega))) ?_
         exact (List.perm_middle (a := y) (l₁ := x :: xs) (l₂ := ys)).symm
       | false =>
         rw [mg_a e, List.cons_append]
         exact .cons x (ih xs (y :: ys) (by simp only [List.length_cons]; omega))
theorem mg_mem {xs ys : List Nat} {z : Nat} : z ∈ mg blt k xs ys ↔ z ∈ xs ∨ z ∈ ys := by rw [(mg_perm _ xs ys rfl).mem_iff, List.mem_append]
theorem mg_len (xs ys : List Nat) : (mg blt k xs ys).length = xs.length + ys.length := by rw [(mg_perm _ xs ys rfl).length_eq, List.length_append]
theorem mg_up (W : WO blt) : ∀ (n : Nat) (xs ys : List Nat), xs.length + ys.length = n → xs.Pairwise (Rk blt k) → ys.Pairwise (Rk blt k) → (∀ x ∈ xs, ∀ y ∈ ys, x < y) → (mg blt k xs ys).Pairwise (Rk blt k) := by
 intro n
 induction n with
 | zero =>
   intro xs ys hn h1 h2 h3
   have : xs = [] := List.eq_nil_of_length_eq_zero (by omega)
   subst xs
   rw [mg_nil]; exact h2
 | succ n ih =>
   intro xs ys hn h1 h2 h3
   cases xs with
   | nil => rw [mg_nil]; exact h2
   | cons x xs =>
     cases ys with
     | nil => rw [mg_nil2]; exact h1
     | cons y ys =>
       simp only [List.length_cons] at hn
       have p1 := List.pairwise_cons.mp h1
       have p2 := List.pairwise_cons.mp h2
       cases e : blt (k y) (k x) with
       | true =>
         rw [mg_b e]
         refine List.pairwise_cons.mpr ⟨fun z hz => ?_, ih (x :: xs) ys (by simp only [List.length_cons]; omega) h1 p2.2 fun a ha b hb => h3 a ha b (by simp [hb])⟩
         rcases mg_mem.mp hz with hz | hz
         · rcases List.mem_cons.mp hz with rfl | hz
           · exact .inl e
           · exact Rk.trans W (.inl e) (p1.1 z hz)
         · exact p2.1 z hz
       | false =>
         rw [mg_a e]
         have rx : Rk blt k x y := .inr ⟨e, h3 x (by simp) y (by simp)⟩
         refine List.pairwise_cons.mpr ⟨fun z hz => ?_, ih xs (y :: ys) (by simp only [List.length_cons]; omega) p1.2 h2 fun a ha b hb => h3 a (by simp [ha]) b hb⟩
         rcases mg_mem.mp hz with hz | hz
         · exact p1.1 z hz
         · rcases List.mem_cons.mp hz with rfl | hz
           · exact rx
           · exact Rk.trans W rx (p2.1 z hz)
theorem mg_sorted (W : WO blt) {xs ys : List Nat} (h1 : xs.Pairwise (Rk blt k)) (h2 : ys.Pairwise (Rk blt k)) (h3 : ∀ x ∈ xs, ∀ y ∈ ys, x < y) : (mg blt k xs ys).Pairwise (Rk blt k) := mg_up W _ xs ys rfl h1 h2 h3
end
end L6
namespace L6
open PySem PyProof.Rows
def at0 (a₀ : Array Keyed) (n : Nat) : Keyed := a₀.getD n (.none, .none)
theorem at0_get {a₀ : Array Keyed} {n : Nat} (h : n < a₀.size) : a₀[n]? = some (at0 a₀ n) := by
 unfold at0
 rw [Array.getElem?_eq_getElem h]
 simp [Array.getD, h]
structure Nmd (a₀ : Array Keyed) (arr : Array Keyed) (L : List Nat) : Prop where
 eq : arr.toList = L.map (at0 a₀)
 lt : ∀ n ∈ L, n < a₀.size
section
variable {a₀ : Array Keyed} {a b out : Array Keyed} {LA LB oN : List Nat}
theorem Nmd.size (h : Nmd a₀ a LA) : a.size = LA.length := by rw [← Array.length_toList, h.eq, List.length_map]
theorem Nmd.get (h : Nmd a₀ a LA) {i : Nat} (hi : i < LA.length) : ∃ x, a[i]? = some x ∧ a₀[LA.getD i 0]? = some x ∧ x = at0 a₀ (LA.getD i 0) := by
 refine ⟨at0 a₀ (LA.getD i 0), ?_, at0_get (h.lt _ ?_), rfl⟩
 · rw [← Array.getElem?_toList, h.eq, List.getElem?_map, List.getElem?_eq_getElem hi]
   simp [List.getD, hi]
 · simp [List.getD, hi]
theorem Nmd.push (h : Nmd a₀ out oN) {n : Nat} (hn : n < a₀.size) : Nmd a₀ (out.push (at0 a₀ n)) (oN ++ [n]) :=
 ⟨by rw [Array.toList_push, h.eq, List.map_append]; rfl, fun x hx => by rcases List.mem_append.mp hx with z | z; (exact h.lt x z); (rw [List.mem_singleton.mp z]; exact hn)⟩
theorem Nmd.app (h : Nmd a₀ out oN) (h' : Nmd a₀ a LA) : Nmd a₀ (out ++ a) (oN ++ LA) :=
 ⟨by rw [Array.toList_append, h.eq, h'.eq, List.map_append], fun x hx => by rcases List.mem_append.mp hx with z | z; (exact h.lt x z); (exact h'.lt x z)⟩
theorem Nmd.cut (h : Nmd a₀ a LA) (i j : Nat) : Nmd a₀ (a.extract i j) ((LA.drop i).take (j - i)) :=
 ⟨by rw [Array.toList_extract, h.eq, List.extract_eq_drop_take', List.drop_take, ← List.map_drop, ← List.map_take], fun x hx => h.lt x (List.mem_of_mem_drop (List.mem_of_mem_take hx))⟩
theorem Nmd.rest (h : Nmd a₀ a LA) (i : Nat) : Nmd a₀ (a.extract i) (LA.drop i) := by
 have := h.cut i a.size
 rw [h.size, List.take_of_length_le (by rw [List.length_drop]; exact Nat.le_refl _), ← h.size] at this
 exact this
end
end L6
namespace L6
open PySem PyProof.Rows
section
variable {α : Type} {blt : α → α → Bool} {k : Nat → α} {a₀ a b out : Array Keyed} {LA LB : List Nat}
structure Mid (blt : α → α → Bool) (k : Nat → α) (a₀ : Array Keyed) (LA LB : List Nat) (out : Array Keyed) (ia ib : Nat) : Prop where
 ha : ia ≤ LA.length
 hb : ib ≤ LB.length
 ex : ∃ oN, Nmd a₀ out oN ∧ oN ++ mg blt k (LA.drop ia) (LB.drop ib) = mg blt k LA LB
theorem dropG {L : List Nat} {i : Nat} (h : i < L.length) : L.drop i = L.getD i 0 :: L.drop (i + 1) := by
 rw [List.drop_eq_getElem_cons h]
 simp [List.getD, h]
theorem Mid.pb (A : Nmd a₀ a LA) (B : Nmd a₀ b LB) {ia ib : Nat} (m : Mid blt k a₀ LA LB out ia ib) (h1 : ia < LA.length) (h2 : ib < LB.length) (h : blt (k (LB.getD ib 0)) (k (LA.getD ia 0)) = true) : Mid blt k a₀ LA LB (out.push (at0 a₀ (LB.getD ib 0))) ia (ib + 1) := by
 obtain ⟨oN, n, e⟩ := m.ex
 refine ⟨m.ha, h2, oN ++ [LB.getD ib 0], n.push (B.lt _ (by simp [List.getD, h2])), ?_⟩
 rw [← e, dropG h1, dropG h2, mg_b h, List.append_assoc]
 rfl
theorem Mid.pa (A : Nmd a₀ a LA) (B : Nmd a₀ b LB) {ia ib : Nat} (m : Mid blt k a₀ LA LB out ia ib) (h1 : ia < LA.length) (h2 : ib < LB.length) (h : blt (k (LB.getD ib 0)) (k (LA.getD ia 0)) = false) : Mid blt k a₀ LA LB (out.push (at0 a₀ (LA.getD ia 0))) (ia + 1) ib := by
 obtain ⟨oN, n, e⟩ := m.ex
 refine ⟨h1, m.hb, oN ++ [LA.getD ia 0], n.push (A.lt _ (by simp [List.getD, h1])), ?_⟩
 rw [← e, dropG h1, dropG h2, mg_a h, List.append_assoc]
 rfl
theorem mem_cut {L : List Nat} {i p x : Nat} (hx : x ∈ (L.drop i).take p) : ∃ j, j < p ∧ i + j < L.length ∧ x = L.getD (i + j) 0 := by
 obtain ⟨j, hj, e⟩ := List.getElem_of_mem hx
 rw [List.length_take, List.length_drop] at hj
 refine ⟨j, by omega, by omega, ?_⟩
 rw [← e, List.getElem_take, List.getElem_drop]
 simp [List.getD, show i + j < L.length by omega]
theorem cut_at {L : List Nat} {i p : Nat} (h : i + p ≤ L.length) : L.drop i = (L.drop i).take p ++ L.drop (i + p) := by
 rw [← List.drop_drop, List.take_append_drop]
theorem Mid.as (A : Nmd a₀ a LA) {ia ib p : Nat} (m : Mid blt k a₀ LA LB out ia ib) (h1 : ia + p ≤ LA.length) (h2 : ib < LB.length) (h : ∀ i, i < p → blt (k (LB.getD ib 0)) (k (LA.getD (ia + i) 0)) = false) : Mid blt k a₀ LA LB (out ++ a.extract ia (ia + p)) (ia + p) ib := by
 obtain ⟨oN, n, e⟩ := m.ex
 have c := A.cut ia (ia + p)
 rw [show ia + p - ia = p by omega] at c
 refine ⟨h1, m.hb, oN ++ (LA.drop ia).take p, n.app c, ?_⟩
 rw [← e, List.append_assoc]
 congr 1
 rw [dropG h2]
 conv => rhs; rw [cut_at h1]
 rw [mg_as]
 intro x hx
 obtain ⟨j, hj, _, rfl⟩ := mem_cut hx
 exact h j hj
theorem Mid.bs (B : Nmd a₀ b LB) {ia ib p : Nat} (m : Mid blt k a₀ LA LB out ia ib) (h1 : ia < LA.length) (h2 : ib + p ≤ LB.length) (h : ∀ i, i < p → blt (k (LB.getD (ib + i) 0)) (k (LA.getD ia 0)) = true) : Mid blt k a₀ LA LB (out ++ b.extract ib (ib + p)) ia (ib + p) := by
 obtain ⟨oN, n, e⟩ := m.ex
 have c := B.cut ib (ib + p)
 rw [show ib + p - ib = p by omega] at c
 refine ⟨m.ha, h2, oN ++ (LB.drop ib).take p, n.app c, ?_⟩
 rw [← e, List.append_assoc]
 congr 1
 rw [dropG h1]
 conv => rhs; rw [cut_at h2]
 rw [mg_bs]
 intro x hx
 obtain ⟨j, hj, _, rfl⟩ := mem_cut hx
 exact h j hj
def Mrg (blt : α → α → Bool) (k : Nat → α) (a₀ : Array Keyed) (LA LB : List Nat) (r : Array Keyed) : Prop := Nmd a₀ r (mg blt k LA LB)
theorem Mid.endB (A : Nmd a₀ a LA) (B : Nmd a₀ b LB) {ia ib : Nat} (m : Mid blt k a₀ LA LB out ia ib) (h : ib = LB.length) : Mrg blt k a₀ LA LB (out ++ a.extract ia ++ b.extract ib) := by
 obtain ⟨oN, n, e⟩ := m.ex
 subst h
 have := (n.app (A.rest ia)).app (B.rest LB.length)
 rw [List.drop_length, mg_nil2] at e
 rw [List.drop_length, List.append_nil, e] at this
 exact this
theorem Mid.endA (A : Nmd a₀ a LA) (B : Nmd a₀ b LB) {ia ib : Nat} (m : Mid blt k a₀ LA LB out ia ib) (h : ia = LA.length) : Mrg blt k a₀ LA LB (out ++ a.extract ia ++ b.extract ib) := by
 obtain ⟨oN, n, e⟩ := m.ex
 subst h
 have := (n.app (A.rest LA.length)).app (B.rest ib)
 rw [List.drop_length, mg_nil] at e
 rw [List.drop_length, List.append_nil, e] at this
 exact this
theorem Mid.last (A : Nmd a₀ a LA) (B : Nmd a₀ b LB) {ia ib : Nat} (m : Mid blt k a₀ LA LB out ia ib) (h : ia + 1 = LA.length) (hl : ∀ y ∈ LB, blt (k y) (k (LA.getD (LA.length - 1) 0)) = true) : Mrg blt k a₀ LA LB (out ++ b.extract ib ++ a.extract ia) := by
 obtain ⟨oN, n, e⟩ := m.ex
 have := (n.app (B.rest ib)).app (A.rest ia)
 have d : LA.drop ia = [LA.getD ia 0] := by rw [dropG (by omega), List.drop_eq_nil_of_le (by omega)]
 rw [d] at e this
 rw [mg_one (fun y hy => by have := hl y (List.mem_of_mem_drop hy); rwa [show LA.length - 1 = ia by omega] at this)] at e
 rw [List.append_assoc, e] at this
 exact this
end
end L6
namespace L6
open PySem PyProof.Rows
def mergeLo' : Array Keyed → Array Keyed → StateT SortSt Sem (Array Keyed) := sortPriv% PySem.Builtin.mergeLo
structure Keep (st st' : SortSt) : Prop where
 ki : kindOf st' = kindOf st
 ar : arrOf st' = arrOf st
 pe : pendingOf st' = pendingOf st
 fa : failedOf st' = failedOf st
theorem Keep.refl (st : SortSt) : Keep st st := ⟨rfl, rfl, rfl, rfl⟩
theorem Keep.trans {a b c : SortSt} (h : Keep a b) (h' : Keep b c) : Keep a c := ⟨h'.ki.trans h.ki, h'.ar.trans h.ar, h'.pe.trans h.pe, h'.fa.trans h.fa⟩
section
variable {prog : Program} {w : World} {A : Around} {E : Value → Shared → Prop} {s : Shared} {α : Type} {blt : α → α → Bool} {k : Nat → α} {a₀ a b : Array Keyed} {kd : SortKind} {st : SortSt} {LA LB : List Nat}
def Srt (blt : α → α → Bool) (k : Nat → α) (L : List Nat) : Prop := ∀ i j, i < j → j < L.length → blt (k (L.getD j 0)) (k (L.getD i 0)) = false
theorem galA {ia jb n hint : Nat} {key : Keyed} {Q : Option Nat → SortSt → Prop} (W : WO blt) (hC : CmpOk prog w A s kd a₀ blt k) (ki : kindOf st = kd) (NA : Nmd a₀ a LA) (sa : Srt blt k LA) (hj : a₀[jb]? = some key) (hn : ia + n ≤ LA.length) (hh : hint < n)
   (h : ∀ p, p ≤ n → (∀ i, i < p → blt (k jb) (k (LA.getD (ia + i) 0)) = false) → (∀ i, p ≤ i → i < n → blt (k jb) (k (LA.getD (ia + i) 0)) = true) → Q (some p) st) : wpS (model prog w) A E s (gallop' false key a ia n hint) Q st := by
 refine gal_st (L := fun i => LA.getD (ia + i) 0) (jk := jb) hC ki hj (fun i hi => ?_) (fun i j hij hjn e => ?_) hh fun p hp h1 h2 => h p hp (fun i hi => ?_) fun i hi hi2 => ?_
 · obtain ⟨x, e1, e2, _⟩ := NA.get (i := ia + i) (by omega)
   exact ⟨x, e1, e2⟩
 · have e : (!blt (k jb) (k (LA.getD (ia + j) 0))) = true := e
   show (!blt (k jb) (k (LA.getD (ia + i) 0))) = true
   rw [Bool.not_eq_true'] at e ⊢
   exact le_le W (sa (ia + i) (ia + j) (by omega) (by omega)) e
 · have e : (!blt (k jb) (k (LA.getD (ia + i) 0))) = true := h1 i hi
   rwa [Bool.not_eq_true'] at e
 · have e : (!blt (k jb) (k (LA.getD (ia + i) 0))) = false := h2 i hi hi2
   rwa [Bool.not_eq_false'] at e
theorem galB {ib ja n hint : Nat} {key : Keyed} {Q : Option Nat → SortSt → Prop} (W : WO blt) (hC : CmpOk prog w A s kd a₀ blt k) (ki : kindOf st = kd) (NB : Nmd a₀ b LB) (sb : Srt blt k LB) (hj : a₀[ja]? = some key) (hn : ib + n ≤ LB.length) (hh : hint < n)
   (h : ∀ p, p ≤ n → (∀ i, i < p → blt (k (LB.getD (ib + i) 0)) (k ja) = true) → (∀ i, p ≤ i → i < n → blt (k (LB.getD (ib + i) 0)) (k ja) = false) → Q (some p) st) : wpS (model prog w) A E s (gallop' true key b ib n hint) Q st := by
 refine gal_st (L := fun i => LB.getD (ib + i) 0) (jk := ja) hC ki hj (fun i hi => ?_) (fun i j hij hjn e => ?_) hh fun p hp h1 h2 => h p hp (fun i hi => h1 i hi) fun i hi hi2 => h2 i hi hi2
 · obtain ⟨x, e1, e2, _⟩ := NB.get (i := ib + i) (by omega)
   exact ⟨x, e1, e2⟩
 · exact le_lt W (sb (ib + i) (ib + j) (by omega) (by omega)) e
theorem wpS_ifB {β : Type} {c : Bool} {t e : StateT SortSt Sem β} {Q : β → SortSt → Prop} {M : Model} (h1 : c = true → wpS M A E s t Q st) (h2 : c = false → wpS M A E s e Q st) : wpS M A E s (if c = true then t else e) Q st := by
 cases c with
 | true => rw [if_pos rfl]; exact h1 rfl
 | false => rw [if_neg Bool.false_ne_true]; exact h2 rfl
theorem lo_st {Q : Array Keyed → SortSt → Prop} (W : WO blt) (hC : CmpOk prog w A s kd a₀ blt k) (ki : kindOf st = kd) (NA : Nmd a₀ a LA) (NB : Nmd a₀ b LB) (sa : Srt blt k LA) (sb : Srt blt k LB) (hA : 0 < LA.length) (hB : 0 < LB.length)
   (hf : blt (k (LB.getD 0 0)) (k (LA.getD 0 0)) = true) (hl : ∀ y ∈ LB, blt (k y) (k (LA.getD (LA.length - 1) 0)) = true) (h : ∀ r st', Mrg blt k a₀ LA LB r → Keep st st' → Q r st') : wpS (model prog w) A E s (mergeLo' a b) Q st := by
 have za := NA.size
 have zb := NB.size
 unfold mergeLo'
 refine wpS_bind (wpS_lift (wpAny_rule ⟨rfl, ?_⟩))
 dsimp only
 obtain ⟨x0, e0, _, rfl⟩ := NB.get hB
 refine wpS_bind (elem_x e0 ?_)
 have m0 : Mid blt k a₀ LA LB #[at0 a₀ (LB.getD 0 0)] 0 1 := by
   have := Mid.pb (out := #[]) NA NB ⟨Nat.zero_le _, Nat.zero_le _, [], ⟨rfl, fun _ h => by cases h⟩, rfl⟩ hA hB hf
   exact this
 by_cases c1 : 1 = b.size
 · rw [if_pos (by simpa using c1)]
   exact wpS_pure (h _ _ (m0.endB NA NB (by omega)) (.refl _))
 rw [if_neg (by simpa using c1)]
 by_cases c2 : 0 + 1 = a.size
 · rw [if_pos (by simpa using c2)]
   exact wpS_pure (h _ _ (m0.last NA NB (by omega) hl) (.refl _))
 rw [if_neg (by simpa using c2)]
 refine wpS_bind (wpS_get ?_)
 refine wpS_bind (wpS_mono (wpS_forRange
   (I := fun x c st' => Keep st st' ∧ ∃ out ia ib g, c = (none, out, ia, ib, g) ∧ Mid blt k a₀ LA LB out ia ib ∧ ia + 1 < LA.length ∧ ib < LB.length ∧ x ≤ ia + ib)
   (Q := fun c st' => Keep st st' ∧ ∃ r d, c = (some r, d) ∧ Mrg blt k a₀ LA LB r) ?turn ?out ⟨.refl _, _, _, _, _, rfl, m0, by omega, by omega, by omega⟩) ?rest)
 case rest =>
   rintro c st' ⟨kp, r, d, rfl, m⟩
   exact wpS_pure (h r st' m kp)
 case out =>
   rintro c st' ⟨kp, o, i, j, g, rfl, m, h1, h2, h3⟩
   exact absurd h3 (by omega)
 case turn =>
   rintro x c st' _ hx ⟨kp, out, ia, ib, g, rfl, m, h1, h2, h3⟩
   dsimp only
   have ki' : kindOf st' = kd := kp.ki.trans ki
   refine wpS_bind (wpS_mono (wpS_forRange
     (I := fun y c st2 => st2 = st' ∧ ∃ out1 ia1 ib1 ac bc, c = (none, out1, ia1, ib1, ac, bc) ∧ Mid blt k a₀ LA LB out1 ia1 ib1 ∧ ia1 + 1 < LA.length ∧ ib1 < LB.length ∧ y + (ia + ib) ≤ ia1 + ib1)
     (Q := fun c st2 => st2 = st' ∧ ((∃ r d, c = (some r, d) ∧ Mrg blt k a₀ LA LB r) ∨ ∃ out1 ia1 ib1 ac bc, c = (none, out1, ia1, ib1, ac, bc) ∧ Mid blt k a₀ LA LB out1 ia1 ib1 ∧ ia1 + 1 < LA.length ∧ ib1 < LB.length ∧ 1 + (ia + ib) ≤ ia1 + ib1)) ?t1 ?o1 ⟨rfl, _, _, _, _, _, rfl, m, h1, h2, by omega⟩) ?r1)
   case o1 =>
     rintro c st2 ⟨e, o, i, j, ac, bc, rfl, m, g1, g2, g3⟩
     exact ⟨e, .inr ⟨o, i, j, ac, bc, rfl, m, g1, g2, by omega⟩⟩
   case t1 =>
     rintro y c st2 _ hy ⟨rfl, o, i, j, ac, bc, rfl, m, g1, g2, g3⟩
     dsimp only
     obtain ⟨xb, eb, nb, rfl⟩ := NB.get g2
     obtain ⟨xa, ea, na, rfl⟩ := NA.get (i := i) (by omega)
     refine wpS_bind (elem_x eb (wpS_bind (elem_x ea (wpS_bind (lt_x hC ki' nb na ?_)))))
     dsimp only
     cases q : blt (k (LB.getD j 0)) (k (LA.getD i 0)) with
     | true =>
       rw [if_pos rfl]
       have m2 := m.pb NA NB (by omega) g2 q
       refine wpS_bind (elem_x eb ?_)
       by_cases z : j + 1 = b.size
       · rw [if_pos (by simpa using z)]
         exact wpS_pure ⟨rfl, .inl ⟨_, _, rfl, m2.endB NA NB (by omega)⟩⟩
       · rw [if_neg (by simpa using z)]
         split
         · exact wpS_pure ⟨rfl, .inr ⟨_, _, _, _, _, rfl, m2, g1, by omega, by omega⟩⟩
         · exact wpS_pure ⟨rfl, _, _, _, _, _, rfl, m2, g1, by omega, by omega⟩
     | false =>
       rw [if_neg Bool.false_ne_true]
       have m2 := m.pa NA NB (by omega) g2 q
       refine wpS_bind (elem_x ea ?_)
       by_cases z : i + 1 + 1 = a.size
       · rw [if_pos (by simpa using z)]
         exact wpS_pure ⟨rfl, .inl ⟨_, _, rfl, m2.last NA NB (by omega) hl⟩⟩
       · rw [if_neg (by simpa using z)]
         split
         · exact wpS_pure ⟨rfl, .inr ⟨_, _, _, _, _, rfl, m2, by omega, g2, by omega⟩⟩
         · exact wpS_pure ⟨rfl, _, _, _, _, _, rfl, m2, by omega, g2, by omega⟩
   case r1 =>
     rintro c st2 ⟨rfl, ⟨r, d, rfl, mm⟩ | ⟨o, i, j, ac, bc, rfl, m, g1, g2, g3⟩⟩
     · exact wpS_pure ⟨kp, _, _, rfl, mm⟩
     dsimp only
     refine wpS_bind (wpS_lift (wpAny_rule ⟨rfl, ?_⟩))
     refine wpS_bind (wpS_mono (wpS_forRange
       (I := fun y c st3 => Keep st st3 ∧ ∃ out1 ia1 ib1 g ac bc, c = (none, out1, ia1, ib1, g, ac, bc) ∧ Mid blt k a₀ LA LB out1 ia1 ib1 ∧ ia1 + 1 < LA.length ∧ ib1 < LB.length ∧ 1 + (ia + ib) ≤ ia1 + ib1)
       (Q := fun c st3 => Keep st st3 ∧ ((∃ r d, c = (some r, d) ∧ Mrg blt k a₀ LA LB r) ∨ ∃ out1 ia1 ib1 g ac bc, c = (none, out1, ia1, ib1, g, ac, bc) ∧ Mid blt k a₀ LA LB out1 ia1 ib1 ∧ ia1 + 1 < LA.length ∧ ib1 < LB.length ∧ 1 + (ia + ib) ≤ ia1 + ib1)) ?t2 ?o2 ⟨kp, _, _, _, _, _, _, rfl, m, g1, g2, g3⟩) ?r2)
     case o2 =>
       rintro c st3 ⟨kp3, z⟩
       exact ⟨kp3, .inr z⟩
     case r2 =>
       rintro c st3 ⟨kp3, ⟨r, d, rfl, mm⟩ | ⟨o, i, j, g, ac, bc, rfl, m, g1, g2, g3⟩⟩
       · exact wpS_pure ⟨kp3, _, _, rfl, mm⟩
       dsimp only
       refine wpS_bind (wpS_modify ?_)
       exact wpS_pure ⟨kp3.trans ⟨rfl, rfl, rfl, rfl⟩, _, _, _, _, rfl, m, g1, g2, by omega⟩
     case t2 =>
       rintro y c st3 _ hy ⟨kp3, o, i, j, g, ac, bc, rfl, m, g1, g2, g3⟩
       dsimp only
       obtain ⟨xb, eb, nb, rfl⟩ := NB.get g2
       by_cases gg : g > 1 <;> first | rw [if_pos gg] | rw [if_neg gg]
       all_goals
         refine wpS_bind (wpS_modify ?_)
         refine wpS_bind (elem_x eb ?_)
         refine wpS_bind (galA W hC (kp3.ki.trans ki) NA sa nb (ia := i) (n := a.size - i) (by omega) (by omega) fun p hp p1 p2 => ?_)
         dsimp only
         by_cases pp : p > 0 <;> first
           | rw [if_pos pp]
             have m1 := m.as NA (p := p) (by omega) g2 p1
             by_cases z1 : i + p + 1 = a.size
             · rw [if_pos (by simpa using z1)]
               exact wpS_pure ⟨kp3.trans ⟨rfl, rfl, rfl, rfl⟩, .inl ⟨_, _, rfl, m1.last NA NB (by omega) hl⟩⟩
             rw [if_neg (by simpa using z1)]
             by_cases z2 : i + p = a.size
             · rw [if_pos (by simpa using z2)]
               exact wpS_pure ⟨kp3.trans ⟨rfl, rfl, rfl, rfl⟩, .inl ⟨_, _, rfl, m1.endA NA NB (by omega)⟩⟩
             rw [if_neg (by simpa using z2)]
             have h1' : i + p + 1 < LA.length := by omega
             have q1 := p2 p (Nat.le_refl _) (by omega)
             have pr : i + j ≤ i + p + j := by omega
           | rw [if_neg pp]
             have h1' : i + 1 < LA.length := g1
             have m1 := m
             have q1 : blt (k (LB.getD j 0)) (k (LA.getD i 0)) = true := p2 0 (by omega) (by omega)
             have pr : i + j ≤ i + j := Nat.le_refl _
         all_goals
           have m2 := m1.pb NA NB (by omega) g2 q1
           refine wpS_bind (elem_x eb ?_)
           by_cases z3 : j + 1 = b.size
           · rw [if_pos (by simpa using z3)]
             exact wpS_pure ⟨kp3.trans ⟨rfl, rfl, rfl, rfl⟩, .inl ⟨_, _, rfl, m2.endB NA NB (by omega)⟩⟩
           rw [if_neg (by simpa using z3)]
           obtain ⟨xa, ea, na, rfl⟩ := NA.get (Nat.lt_of_succ_lt h1')
           refine wpS_bind (elem_x ea ?_)
           refine wpS_bind (galB W hC (kp3.ki.trans ki) NB sb na (ib := j + 1) (n := b.size - (j + 1)) (by omega) (by omega) fun q hq r1 r2 => ?_)
           dsimp only
           by_cases qq : q > 0 <;> first
             | rw [if_pos qq]
               have m3 := m2.bs NB (p := q) (Nat.lt_of_succ_lt h1') (by omega) r1
               by_cases z4 : j + 1 + q = b.size
               · rw [if_pos (by simpa using z4)]
                 exact wpS_pure ⟨kp3.trans ⟨rfl, rfl, rfl, rfl⟩, .inl ⟨_, _, rfl, m3.endB NA NB (by omega)⟩⟩
               rw [if_neg (by simpa using z4)]
               have h2' : j + 1 + q < LB.length := by omega
               have q2 := r2 q (Nat.le_refl _) (by omega)
             | rw [if_neg qq]
               have h2' : j + 1 < LB.length := by omega
               have m3 := m2
               have q2 := r2 0 (by omega) (by omega)
           all_goals
             have m4 := m3.pa NA NB (Nat.lt_of_succ_lt h1') h2' q2
             refine wpS_bind (elem_x ea ?_)
             have last := fun e => m4.last NA NB e hl
             refine wpS_ifB (fun z5 => ?_) fun z5 => wpS_ifB (fun _ => ?_) fun _ => ?_
             · have z5 := beq_iff_eq.mp z5
               exact wpS_pure ⟨kp3.trans ⟨rfl, rfl, rfl, rfl⟩, .inl ⟨_, _, rfl, last (by omega)⟩⟩
             all_goals have z5 := beq_eq_false_iff_ne.mp z5
             · exact wpS_pure ⟨kp3.trans ⟨rfl, rfl, rfl, rfl⟩, .inr ⟨_, _, _, _, _, _, rfl, m4, by omega, h2', by omega⟩⟩
             · exact wpS_pure ⟨kp3.trans ⟨rfl, rfl, rfl, rfl⟩, _, _, _, _, _, _, rfl, m4, by omega, h2', by omega⟩
end
end L6
namespace L6
open PySem PyProof.Rows
def mergeHi' : Array Keyed → Array Keyed → StateT SortSt Sem (Array Keyed) := sortPriv% PySem.Builtin.mergeHi
section
variable {α : Type} {blt : α → α → Bool} {k : Nat → α} {a₀ a b out : Array Keyed} {LA LB : List Nat}
structure MidH (blt : α → α → Bool) (k : Nat → α) (a₀ : Array Keyed) (LA LB : List Nat) (out : Array Keyed) (na nb : Nat) : Prop where
 ha : na ≤ LA.length
 hb : nb ≤ LB.length
 ex : ∃ oN, Nmd a₀ out oN ∧ mg blt k (LA.take na) (LB.take nb) ++ oN.reverse = mg blt k LA LB
theorem Nmd.rev {oN : List Nat} (h : Nmd a₀ out oN) : Nmd a₀ out.reverse oN.reverse := ⟨by rw [Array.toList_reverse, h.eq, List.map_reverse], fun x hx => h.lt x (List.mem_reverse.mp hx)⟩
theorem takeG {L : List Nat} {i : Nat} (h : i < L.length) : L.take (i + 1) = L.take i ++ [L.getD i 0] := by
 rw [List.take_succ, List.getElem?_eq_getElem h]
 simp [List.getD, h]
theorem mem_take {L : List Nat} {p x : Nat} (hx : x ∈ L.take p) : ∃ j, j < p ∧ j < L.length ∧ x = L.getD j 0 := by
 have := mem_cut (L := L) (i := 0) (p := p) (by simpa using hx)
 obtain ⟨j, h1, h2, h3⟩ := this
 exact ⟨j, h1, by omega, by rw [h3, Nat.zero_add]⟩
theorem Srt.le {L : List Nat} (W : WO blt) (h : Srt blt k L) {i j : Nat} (hij : i ≤ j) (hj : j < L.length) : blt (k (L.getD j 0)) (k (L.getD i 0)) = false := by
 rcases Nat.lt_or_ge i j with z | z
 · exact h i j z hj
 · have : i = j := by omega
   subst this
   exact W.irr _
theorem MidH.pa (A : Nmd a₀ a LA) {na nb : Nat} (m : MidH blt k a₀ LA LB out (na + 1) nb) (h : ∀ i, i < nb → blt (k (LB.getD i 0)) (k (LA.getD na 0)) = true) : MidH blt k a₀ LA LB (out.push (at0 a₀ (LA.getD na 0))) na nb := by
 obtain ⟨oN, n, e⟩ := m.ex
 have hna : na < LA.length := m.ha
 refine ⟨by omega, m.hb, oN ++ [LA.getD na 0], n.push (A.lt _ (by simp [List.getD, hna])), ?_⟩
 rw [takeG hna, mg_aEnd (fun w hw y hy => by obtain ⟨j, h1, _, rfl⟩ := mem_take hy; rw [List.mem_singleton.mp hw]; exact h j h1)] at e
 rw [← e, List.reverse_append, List.append_assoc]
 rfl
theorem MidH.pb (B : Nmd a₀ b LB) {na nb : Nat} (m : MidH blt k a₀ LA LB out na (nb + 1)) (h : ∀ i, i < na → blt (k (LB.getD nb 0)) (k (LA.getD i 0)) = false) : MidH blt k a₀ LA LB (out.push (at0 a₀ (LB.getD nb 0))) na nb := by
 obtain ⟨oN, n, e⟩ := m.ex
 have hnb : nb < LB.length := m.hb
 refine ⟨m.ha, by omega, oN ++ [LB.getD nb 0], n.push (B.lt _ (by simp [List.getD, hnb])), ?_⟩
 rw [takeG hnb, mg_bEnd (fun z hz x hx => by obtain ⟨j, h1, _, rfl⟩ := mem_take hx; rw [List.mem_singleton.mp hz]; exact h j h1)] at e
 rw [← e, List.reverse_append, List.append_assoc]
 rfl
theorem take_cut {L : List Nat} {p n : Nat} (h : p ≤ n) : L.take n = L.take p ++ (L.drop p).take (n - p) := by
 rw [← List.take_add, show p + (n - p) = n by omega]
theorem MidH.as (A : Nmd a₀ a LA) {na nb p : Nat} (m : MidH blt k a₀ LA LB out na nb) (hp : p ≤ na) (h : ∀ j, p ≤ j → j < na → ∀ i, i < nb → blt (k (LB.getD i 0)) (k (LA.getD j 0)) = true) : MidH blt k a₀ LA LB (out ++ (a.extract p na).reverse) p nb := by
 obtain ⟨oN, n, e⟩ := m.ex
 have hh := m.ha
 refine ⟨by omega, m.hb, oN ++ ((LA.drop p).take (na - p)).reverse, n.app (A.cut p na).rev, ?_⟩
 rw [take_cut hp, mg_aEnd (fun w hw y hy => by obtain ⟨i, h1, _, rfl⟩ := mem_take hy; obtain ⟨j, j1, _, rfl⟩ := mem_cut hw; exact h (p + j) (by omega) (by omega) i h1)] at e
 rw [← e, List.reverse_append, List.reverse_reverse, List.append_assoc]
theorem MidH.bs (B : Nmd a₀ b LB) {na nb p : Nat} (m : MidH blt k a₀ LA LB out na nb) (hp : p ≤ nb) (h : ∀ j, p ≤ j → j < nb → ∀ i, i < na → blt (k (LB.getD j 0)) (k (LA.getD i 0)) = false) : MidH blt k a₀ LA LB (out ++ (b.extract p nb).reverse) na p := by
 obtain ⟨oN, n, e⟩ := m.ex
 have hh := m.hb
 refine ⟨m.ha, by omega, oN ++ ((LB.drop p).take (nb - p)).reverse, n.app (B.cut p nb).rev, ?_⟩
 rw [take_cut hp, mg_bEnd (fun z hz x hx => by obtain ⟨i, h1, _, rfl⟩ := mem_take hx; obtain ⟨j, j1, _, rfl⟩ := mem_cut hz; exact h (p + j) (by omega) (by omega) i h1)] at e
 rw [← e, List.reverse_append, List.reverse_reverse, List.append_assoc]
theorem Nmd.upto (h : Nmd a₀ a LA) (n : Nat) : Nmd a₀ (a.extract 0 n) (LA.take n) := by
 have := h.cut 0 n
 rwa [List.drop_zero, Nat.sub_zero] at this
theorem MidH.done (A : Nmd a₀ a LA) (B : Nmd a₀ b LB) {na nb : Nat} (m : MidH blt k a₀ LA LB out na nb) (h : na = 0 ∨ nb = 0) : Mrg blt k a₀ LA LB (a.extract 0 na ++ b.extract 0 nb ++ out.reverse) := by
 obtain ⟨oN, n, e⟩ := m.ex
 have := ((A.upto na).app (B.upto nb)).app n.rev
 have z : LA.take na ++ LB.take nb ++ oN.reverse = mg blt k LA LB := by
   rw [← e]
   rcases h with rfl | rfl
   · rw [List.take_zero, mg_nil]; rfl
   · rw [List.take_zero, mg_nil2, List.append_nil]
 rw [z] at this
 exact this
theorem MidH.first (A : Nmd a₀ a LA) (B : Nmd a₀ b LB) {na nb : Nat} (m : MidH blt k a₀ LA LB out na nb) (h : nb = 1) (hf : blt (k (LB.getD 0 0)) (k (LA.getD 0 0)) = true) : Mrg blt k a₀ LA LB (b.extract 0 nb ++ a.extract 0 na ++ out.reverse) := by
 obtain ⟨oN, n, e⟩ := m.ex
 have := ((B.upto nb).app (A.upto na)).app n.rev
 have z : LB.take nb ++ LA.take na ++ oN.reverse = mg blt k LA LB := by
   rw [← e]
   subst h
   have hb := m.hb
   have t1 : LB.take 1 = [LB.getD 0 0] := by
     have := takeG (L := LB) (i := 0) (by omega)
     simpa using this
   rw [t1]
   cases LA with
   | nil => simp [mg_nil]
   | cons x xs =>
     cases na with
     | zero => simp [mg_nil]
     | succ na =>
       have hf : blt (k (LB.getD 0 0)) (k x) = true := by simpa using hf
       rw [List.take_succ_cons, mg_b hf, mg_nil2]
       rfl
 rw [z] at this
 exact this
end
section
variable {prog : Program} {w : World} {A : Around} {E : Value → Shared → Prop} {s : Shared} {α : Type} {blt : α → α → Bool} {k : Nat → α} {a₀ a b : Array Keyed} {kd : SortKind} {st : SortSt} {LA LB : List Nat}
theorem hi_st {Q : Array Keyed → SortSt → Prop} (W : WO blt) (hC : CmpOk prog w A s kd a₀ blt k) (ki : kindOf st = kd) (NA : Nmd a₀ a LA) (NB : Nmd a₀ b LB) (sa : Srt blt k LA) (sb : Srt blt k LB) (hA : 0 < LA.length) (hB : 0 < LB.length)
   (hf : blt (k (LB.getD 0 0)) (k (LA.getD 0 0)) = true) (hl : ∀ i, i < LB.length → blt (k (LB.getD i 0)) (k (LA.getD (LA.length - 1) 0)) = true) (h : ∀ r st', Mrg blt k a₀ LA LB r → Keep st st' → Q r st') : wpS (model prog w) A E s (mergeHi' a b) Q st := by
 have za := NA.size
 have zb := NB.size
 unfold mergeHi'
 refine wpS_bind (wpS_lift (wpAny_rule ⟨rfl, ?_⟩))
 dsimp only
 obtain ⟨x0, e0, _, rfl⟩ := NA.get (i := a.size - 1) (by omega)
 refine wpS_bind (elem_x e0 ?_)
 have m0 : MidH blt k a₀ LA LB #[at0 a₀ (LA.getD (a.size - 1) 0)] (a.size - 1) b.size := by
   have mm : MidH blt k a₀ LA LB #[] (a.size - 1 + 1) b.size := ⟨by omega, by omega, [], ⟨rfl, fun _ h => by cases h⟩, by rw [show a.size - 1 + 1 = LA.length by omega, zb, List.take_length, List.take_length]; simp⟩
   exact mm.pa NA fun i hi => by rw [za]; exact hl i (by omega)
 refine wpS_ifB (fun z => ?_) fun z => wpS_ifB (fun z' => ?_) fun z' => ?_
 · exact wpS_pure (h _ _ (m0.done NA NB (.inl (beq_iff_eq.mp z))) (.refl _))
 · exact wpS_pure (h _ _ (m0.first NA NB (beq_iff_eq.mp z') hf) (.refl _))
 have z := beq_eq_false_iff_ne.mp z
 have z' := beq_eq_false_iff_ne.mp z'
 refine wpS_bind (wpS_get ?_)
 refine wpS_bind (wpS_mono (wpS_forRange
   (I := fun x c st' => Keep st st' ∧ ∃ out na nb g, c = (none, na, nb, out, g) ∧ MidH blt k a₀ LA LB out na nb ∧ 1 ≤ na ∧ 2 ≤ nb ∧ x + na + nb ≤ LA.length + LB.length)
   (Q := fun c st' => Keep st st' ∧ ∃ r d, c = (some r, d) ∧ Mrg blt k a₀ LA LB r) ?turn ?out ⟨.refl _, _, _, _, _, rfl, m0, by omega, by omega, by omega⟩) ?rest)
 case rest =>
   rintro c st' ⟨kp, r, d, rfl, m⟩
   exact wpS_pure (h r st' m kp)
 case out =>
   rintro c st' ⟨kp, o, i, j, g, rfl, m, h1, h2, h3⟩
   exact absurd h3 (by omega)
 case turn =>
   rintro x c st' _ hx ⟨kp, out, na, nb, g, rfl, m, h1, h2, h3⟩
   dsimp only
   have ki' : kindOf st' = kd := kp.ki.trans ki
   refine wpS_bind (wpS_mono (wpS_forRange
     (I := fun y c st2 => st2 = st' ∧ ∃ out1 na1 nb1 ac bc, c = (none, na1, nb1, out1, ac, bc) ∧ MidH blt k a₀ LA LB out1 na1 nb1 ∧ 1 ≤ na1 ∧ 2 ≤ nb1 ∧ y + na1 + nb1 ≤ na + nb)
     (Q := fun c st2 => st2 = st' ∧ ((∃ r d, c = (some r, d) ∧ Mrg blt k a₀ LA LB r) ∨ ∃ out1 na1 nb1 ac bc, c = (none, na1, nb1, out1, ac, bc) ∧ MidH blt k a₀ LA LB out1 na1 nb1 ∧ 1 ≤ na1 ∧ 2 ≤ nb1 ∧ 1 + na1 + nb1 ≤ na + nb)) ?t1 ?o1 ⟨rfl, _, _, _, _, _, rfl, m, h1, h2, by omega⟩) ?r1)
   case o1 =>
     rintro c st2 ⟨e, o, i, j, ac, bc, rfl, m, g1, g2, g3⟩
     exact ⟨e, .inr ⟨o, i, j, ac, bc, rfl, m, g1, g2, by omega⟩⟩
   case t1 =>
     rintro y c st2 _ hy ⟨rfl, o, i, j, ac, bc, rfl, m, g1, g2, g3⟩
     obtain ⟨i, rfl⟩ : ∃ i', i = i' + 1 := ⟨i - 1, by omega⟩
     obtain ⟨j, rfl⟩ : ∃ j', j = j' + 1 := ⟨j - 1, by omega⟩
     have ma := m.ha
     have mb := m.hb
     dsimp only
     simp only [Nat.add_sub_cancel]
     obtain ⟨xb, eb, nb, rfl⟩ := NB.get (i := j) (by omega)
     obtain ⟨xa, ea, na, rfl⟩ := NA.get (i := i) (by omega)
     refine wpS_bind (elem_x eb (wpS_bind (elem_x ea (wpS_bind (lt_x hC ki' nb na ?_)))))
     dsimp only
     cases q : blt (k (LB.getD j 0)) (k (LA.getD i 0)) with
     | true =>
       rw [if_pos rfl]
       have m2 := m.pa NA fun t ht => le_lt W (sb.le W (show t ≤ j by omega) (by omega)) q
       refine wpS_bind (elem_x ea ?_)
       refine wpS_ifB (fun z => ?_) fun z => ?_
       · exact wpS_pure ⟨rfl, .inl ⟨_, _, rfl, m2.done NA NB (.inl (beq_iff_eq.mp z))⟩⟩
       · have z := beq_eq_false_iff_ne.mp z
         split
         · exact wpS_pure ⟨rfl, .inr ⟨_, _, _, _, _, rfl, m2, by omega, g2, by omega⟩⟩
         · exact wpS_pure ⟨rfl, _, _, _, _, _, rfl, m2, by omega, g2, by omega⟩
     | false =>
       rw [if_neg Bool.false_ne_true]
       have m2 := m.pb NB fun t ht => le_le W (sa.le W (show t ≤ i by omega) (by omega)) q
       refine wpS_bind (elem_x eb ?_)
       refine wpS_ifB (fun z => ?_) fun z => ?_
       · exact wpS_pure ⟨rfl, .inl ⟨_, _, rfl, m2.first NA NB (beq_iff_eq.mp z) hf⟩⟩
       · have z := beq_eq_false_iff_ne.mp z
         split
         · exact wpS_pure ⟨rfl, .inr ⟨_, _, _, _, _, rfl, m2, g1, by omega, by omega⟩⟩
         · exact wpS_pure ⟨rfl, _, _, _, _, _, rfl, m2, g1, by omega, by omega⟩
   case r1 =>
     rintro c st2 ⟨rfl, ⟨r, d, rfl, mm⟩ | ⟨o, i, j, ac, bc, rfl, m, g1, g2, g3⟩⟩
     · exact wpS_pure ⟨kp, _, _, rfl, mm⟩
     dsimp only
     refine wpS_bind (wpS_lift (wpAny_rule ⟨rfl, ?_⟩))
     refine wpS_bind (wpS_mono (wpS_forRange
       (I := fun y c st3 => Keep st st3 ∧ ∃ out1 na1 nb1 g ac bc, c = (none, na1, nb1, out1, g, ac, bc) ∧ MidH blt k a₀ LA LB out1 na1 nb1 ∧ 1 ≤ na1 ∧ 2 ≤ nb1 ∧ 1 + na1 + nb1 ≤ na + nb)
       (Q := fun c st3 => Keep st st3 ∧ ((∃ r d, c = (some r, d) ∧ Mrg blt k a₀ LA LB r) ∨ ∃ out1 na1 nb1 g ac bc, c = (none, na1, nb1, out1, g, ac, bc) ∧ MidH blt k a₀ LA LB out1 na1 nb1 ∧ 1 ≤ na1 ∧ 2 ≤ nb1 ∧ 1 + na1 + nb1 ≤ na + nb)) ?t2 ?o2 ⟨kp, _, _, _, _, _, _, rfl, m, g1, g2, g3⟩) ?r2)
     case o2 =>
       rintro c st3 ⟨kp3, z⟩
       exact ⟨kp3, .inr z⟩
     case r2 =>
       rintro c st3 ⟨kp3, ⟨r, d, rfl, mm⟩ | ⟨o, i, j, g, ac, bc, rfl, m, g1, g2, g3⟩⟩
       · exact wpS_pure ⟨kp3, _, _, rfl, mm⟩
       dsimp only
       refine wpS_bind (wpS_modify ?_)
       exact wpS_pure ⟨kp3.trans ⟨rfl, rfl, rfl, rfl⟩, _, _, _, _, rfl, m, g1, g2, by omega⟩
     case t2 =>
       rintro y c st3 _ hy ⟨kp3, o, i, j, g, ac, bc, rfl, m, g1, g2, g3⟩
       obtain ⟨j, rfl⟩ : ∃ j', j = j' + 1 := ⟨j - 1, by omega⟩
       have ma := m.ha
       have mb := m.hb
       dsimp only
       simp only [Nat.add_sub_cancel]
       obtain ⟨xb, eb, nb, rfl⟩ := NB.get (i := j) (by omega)
       by_cases gg : g > 1 <;> first | rw [if_pos gg] | rw [if_neg gg]
       all_goals
         refine wpS_bind (wpS_modify ?_)
         refine wpS_bind (elem_x eb ?_)
         refine wpS_bind (galA W hC (kp3.ki.trans ki) NA sa nb (ia := 0) (n := i) (by omega) (by omega) fun p hp p1 p2 => ?_)
         simp only [Nat.zero_add] at p1 p2
         dsimp only
         by_cases pp : i - p > 0 <;> first
           | rw [if_pos pp]
             have m1 := m.as NA (p := p) hp fun t t1 t2 u hu => le_lt W (sb.le W (show u ≤ j by omega) (by omega)) (p2 t t1 t2)
             refine wpS_ifB (fun z => ?_) fun z => ?_
             · exact wpS_pure ⟨kp3.trans ⟨rfl, rfl, rfl, rfl⟩, .inl ⟨_, _, rfl, m1.done NA NB (.inl (beq_iff_eq.mp z))⟩⟩
             have z := beq_eq_false_iff_ne.mp z
             have h1' : 1 ≤ p := by omega
             have q1 := p1
             have pr : p ≤ i := hp
           | rw [if_neg pp]
             have pe : p = i := by omega
             subst pe
             have h1' : 1 ≤ p := g1
             have m1 := m
             have q1 := p1
             have pr : p ≤ p := Nat.le_refl _
         all_goals
           have m2 := m1.pb NB q1
           refine wpS_bind (elem_x eb ?_)
           refine wpS_ifB (fun z3 => ?_) fun z3 => ?_
           · exact wpS_pure ⟨kp3.trans ⟨rfl, rfl, rfl, rfl⟩, .inl ⟨_, _, rfl, m2.first NA NB (beq_iff_eq.mp z3) hf⟩⟩
           have z3 := beq_eq_false_iff_ne.mp z3
           obtain ⟨p, rfl⟩ : ∃ p', p = p' + 1 := ⟨p - 1, by omega⟩
           simp only [Nat.add_sub_cancel]
           obtain ⟨xa, ea, na', rfl⟩ := NA.get (i := p) (by omega)
           refine wpS_bind (elem_x ea ?_)
           refine wpS_bind (galB W hC (kp3.ki.trans ki) NB sb na' (ib := 0) (n := j) (by omega) (by omega) fun q hq r1 r2 => ?_)
           simp only [Nat.zero_add] at r1 r2
           dsimp only
           by_cases qq : j - q > 0 <;> first
             | rw [if_pos qq]
               have m3 := m2.bs NB (p := q) hq fun t t1 t2 u hu => le_le W (sa.le W (show u ≤ p by omega) (by omega)) (r2 t t1 t2)
               refine wpS_ifB (fun z4 => ?_) fun z4 => wpS_ifB (fun z5 => ?_) fun z5 => ?_
               · exact wpS_pure ⟨kp3.trans ⟨rfl, rfl, rfl, rfl⟩, .inl ⟨_, _, rfl, m3.first NA NB (beq_iff_eq.mp z4) hf⟩⟩
               · exact wpS_pure ⟨kp3.trans ⟨rfl, rfl, rfl, rfl⟩, .inl ⟨_, _, rfl, m3.done NA NB (.inr (beq_iff_eq.mp z5))⟩⟩
               have z4 := beq_eq_false_iff_ne.mp z4
               have z5 := beq_eq_false_iff_ne.mp z5
               have h2' : 2 ≤ q := by omega
               have pr2 : q ≤ j := hq
             | rw [if_neg qq]
               have qe : q = j := by omega
               subst qe
               have h2' : 2 ≤ q := by omega
               have m3 := m2
               have pr2 : q ≤ q := Nat.le_refl _
           all_goals
             have m4 := m3.pa NA r1
             refine wpS_bind (elem_x ea ?_)
             refine wpS_ifB (fun z6 => ?_) fun z6 => wpS_ifB (fun _ => ?_) fun _ => ?_
             · exact wpS_pure ⟨kp3.trans ⟨rfl, rfl, rfl, rfl⟩, .inl ⟨_, _, rfl, m4.done NA NB (.inl (beq_iff_eq.mp z6))⟩⟩
             all_goals have z6 := beq_eq_false_iff_ne.mp z6
             · exact wpS_pure ⟨kp3.trans ⟨rfl, rfl, rfl, rfl⟩, .inr ⟨_, _, _, _, _, _, rfl, m4, by omega, h2', by omega⟩⟩
             · exact wpS_pure ⟨kp3.trans ⟨rfl, rfl, rfl, rfl⟩, _, _, _, _, _, _, rfl, m4, by omega, h2', by omega⟩
end
end L6
namespace L6
open PySem PyProof.Rows
section
variable {prog : Program} {w : World} {A : Around} {E : Value → Shared → Prop} {s : Shared} {α : Type} {blt : α → α → Bool} {k : Nat → α} {a₀ a b : Array Keyed} {kd : SortKind} {st : SortSt} {LA LB N : List Nat}
def SrtW (blt : α → α → Bool) (k : Nat → α) (N : List Nat) (lo n : Nat) : Prop := ∀ i j, i < j → j < n → blt (k (N.getD (lo + j) 0)) (k (N.getD (lo + i) 0)) = false
theorem galWA {ia jb n hint : Nat} {key : Keyed} {Q : Option Nat → SortSt → Prop} (W : WO blt) (hC : CmpOk prog w A s kd a₀ blt k) (ki : kindOf st = kd) (NA : Nmd a₀ a N) (sa : SrtW blt k N ia n) (hj : a₀[jb]? = some key) (hn : ia + n ≤ N.length) (hh : hint < n)
   (h : ∀ p, p ≤ n → (∀ i, i < p → blt (k jb) (k (N.getD (ia + i) 0)) = false) → (∀ i, p ≤ i → i < n → blt (k jb) (k (N.getD (ia + i) 0)) = true) → Q (some p) st) : wpS (model prog w) A E s (gallop' false key a ia n hint) Q st := by
 refine gal_st (L := fun i => N.getD (ia + i) 0) (jk := jb) hC ki hj (fun i hi => ?_) (fun i j hij hjn e => ?_) hh fun p hp h1 h2 => h p hp (fun i hi => ?_) fun i hi hi2 => ?_
 · obtain ⟨x, e1, e2, _⟩ := NA.get (i := ia + i) (by omega)
   exact ⟨x, e1, e2⟩
 · have e : (!blt (k jb) (k (N.getD (ia + j) 0))) = true := e
   show (!blt (k jb) (k (N.getD (ia + i) 0))) = true
   rw [Bool.not_eq_true'] at e ⊢
   exact le_le W (sa i j hij hjn) e
 · have e : (!blt (k jb) (k (N.getD (ia + i) 0))) = true := h1 i hi
   rwa [Bool.not_eq_true'] at e
 · have e : (!blt (k jb) (k (N.getD (ia + i) 0))) = false := h2 i hi hi2
   rwa [Bool.not_eq_false'] at e
theorem galWB {ib ja n hint : Nat} {key : Keyed} {Q : Option Nat → SortSt → Prop} (W : WO blt) (hC : CmpOk prog w A s kd a₀ blt k) (ki : kindOf st = kd) (NB : Nmd a₀ b N) (sb : SrtW blt k N ib n) (hj : a₀[ja]? = some key) (hn : ib + n ≤ N.length) (hh : hint < n)
   (h : ∀ p, p ≤ n → (∀ i, i < p → blt (k (N.getD (ib + i) 0)) (k ja) = true) → (∀ i, p ≤ i → i < n → blt (k (N.getD (ib + i) 0)) (k ja) = false) → Q (some p) st) : wpS (model prog w) A E s (gallop' true key b ib n hint) Q st := by
 refine gal_st (L := fun i => N.getD (ib + i) 0) (jk := ja) hC ki hj (fun i hi => ?_) (fun i j hij hjn e => ?_) hh fun p hp h1 h2 => h p hp (fun i hi => h1 i hi) fun i hi hi2 => h2 i hi hi2
 · obtain ⟨x, e1, e2, _⟩ := NB.get (i := ib + i) (by omega)
   exact ⟨x, e1, e2⟩
 · exact le_lt W (sb i j hij hjn) e
theorem getD_seg {N : List Nat} {lo n i : Nat} (h : i < n) (hn : lo + n ≤ N.length) : ((N.drop lo).take n).getD i 0 = N.getD (lo + i) 0 := by
 simp [List.getD, List.getElem?_take, h, List.getElem?_drop]
theorem len_seg {N : List Nat} {lo n : Nat} (hn : lo + n ≤ N.length) : ((N.drop lo).take n).length = n := by rw [List.length_take, List.length_drop]; omega
theorem SrtW.seg {lo n : Nat} (h : SrtW blt k N lo n) (hn : lo + n ≤ N.length) : Srt blt k ((N.drop lo).take n) := fun i j hij hj => by
 rw [len_seg hn] at hj
 rw [getD_seg hj hn, getD_seg (by omega) hn]
 exact h i j hij hj
theorem SrtW.cut {lo n p m : Nat} (h : SrtW blt k N lo n) (hp : p + m ≤ n) : SrtW blt k N (lo + p) m := fun i j hij hj => by
 have := h (p + i) (p + j) (by omega) (by omega)
 rwa [show lo + (p + j) = lo + p + j by omega, show lo + (p + i) = lo + p + i by omega] at this
theorem SrtW.le (W : WO blt) {lo n i j : Nat} (h : SrtW blt k N lo n) (hij : i ≤ j) (hj : j < n) : blt (k (N.getD (lo + j) 0)) (k (N.getD (lo + i) 0)) = false := by
 rcases Nat.lt_or_ge i j with z | z
 · exact h i j z hj
 · have : i = j := by omega
   subst this
   exact W.irr _
theorem over_list {β : Type} : ∀ (xs : List β) (s n : Nat) (arr : Array β), s + n + xs.length ≤ arr.size → ((xs.zipIdx n).foldl (fun a (p : β × Nat) => a.setIfInBounds (s + p.2) p.1) arr).toList = arr.toList.take (s + n) ++ xs ++ arr.toList.drop (s + n + xs.length)
 | [], s, n, arr, h => by simp
 | x :: xs, s, n, arr, h => by
   rw [List.zipIdx_cons, List.foldl_cons]
   have hl : arr.toList.length = arr.size := Array.length_toList
   rw [List.length_cons] at h
   rw [over_list xs s (n + 1) _ (by rw [Array.size_setIfInBounds]; omega), Array.toList_setIfInBounds]
   dsimp only
   have h1 : (arr.toList.set (s + n) x).take (s + (n + 1)) = arr.toList.take (s + n) ++ [x] := by
     rw [show s + (n + 1) = s + n + 1 by omega, List.take_succ, List.getElem?_set_self (by omega)]
     rw [List.take_set_of_le (Nat.le_refl _)]
     rfl
   have h2 : (arr.toList.set (s + n) x).drop (s + (n + 1) + xs.length) = arr.toList.drop (s + n + (x :: xs).length) := by
     rw [List.drop_set_of_lt (by omega), List.length_cons, show s + (n + 1) + xs.length = s + n + (xs.length + 1) by omega]
   rw [h1, h2]
   simp
theorem Nmd.over {arr m : Array Keyed} {M : List Nat} {s : Nat} (h : Nmd a₀ arr N) (h' : Nmd a₀ m M) (hs : s + M.length ≤ N.length) : Nmd a₀ (m.toList.zipIdx.foldl (fun a (p : Keyed × Nat) => a.setIfInBounds (s + p.2) p.1) arr) (N.take s ++ M ++ N.drop (s + M.length)) := by
 have hz := h.size
 have hm : m.toList.length = M.length := by rw [h'.eq, List.length_map]
 refine ⟨?_, fun x hx => ?_⟩
 · have := over_list m.toList s 0 arr (by omega)
   rw [Nat.add_zero, hm] at this
   rw [this, h.eq, h'.eq, List.map_append, List.map_append, List.map_take, List.map_drop]
 · rcases List.mem_append.mp hx with hx | hx
   · rcases List.mem_append.mp hx with hx | hx
     · exact h.lt x (List.mem_of_mem_take hx)
     · exact h'.lt x hx
   · exact h.lt x (List.mem_of_mem_drop hx)
end
end L6
namespace L6
open PySem PyProof.Rows
theorem wpS_set {σ : Type} {M : Model} {A : Around} {E : Value → Shared → Prop} {s : Shared} {Q : PUnit → σ → Prop} {st st2 : σ} (h : Q ⟨⟩ st2) : wpS M A E s (set st2 : StateT σ Sem PUnit) Q st := by
 unfold wpS
 rw [StateT.run_set]
 exact wpAny_pure ⟨rfl, h⟩
theorem seg_split (N : List Nat) (lo n m : Nat) : N = N.take lo ++ ((N.drop lo).take n ++ (N.drop (lo + n)).take m) ++ N.drop (lo + n + m) := by
 conv => lhs; rw [← List.take_append_drop lo N, ← List.take_append_drop n (N.drop lo), List.drop_drop, ← List.take_append_drop m (N.drop (lo + n)), List.drop_drop]
 simp only [List.append_assoc]
theorem seg_head {N : List Nat} {lo n : Nat} (h : 0 < n) (hn : lo + n ≤ N.length) : ∃ r, (N.drop lo).take n = N.getD lo 0 :: r := by
 rw [dropG (by omega)]
 obtain ⟨m, rfl⟩ : ∃ m, n = m + 1 := ⟨n - 1, by omega⟩
 exact ⟨_, List.take_succ_cons⟩
theorem mem_segW {N : List Nat} {lo n x : Nat} (h : x ∈ (N.drop lo).take n) : ∃ j, j < n ∧ lo + j < N.length ∧ x = N.getD (lo + j) 0 := mem_cut h
theorem seg_cut (N : List Nat) (lo n p : Nat) (h : p ≤ n) : (N.drop lo).take n = (N.drop lo).take p ++ (N.drop (lo + p)).take (n - p) := by
 rw [← List.drop_drop, ← List.take_add, show p + (n - p) = n by omega]
section
variable {prog : Program} {w : World} {A : Around} {E : Value → Shared → Prop} {s : Shared} {α : Type} {blt : α → α → Bool} {k : Nat → α} {a₀ a b : Array Keyed} {kd : SortKind} {st : SortSt} {N : List Nat}
theorem at_st {i sa na pw nb pw2 : Nat} {Q : Bool → SortSt → Prop} (W : WO blt) (hC : CmpOk prog w A s kd a₀ blt k) (ki : kindOf st = kd) (fa : failedOf st = none) (NA : Nmd a₀ (arrOf st) N) (p1 : (pendingOf st)[i]? = some (sa, na, pw)) (p2 : (pendingOf st)[i + 1]? = some (sa + na, nb, pw2))
   (h1 : 0 < na) (h2 : 0 < nb) (hN : sa + na + nb ≤ N.length) (w1 : SrtW blt k N sa na) (w2 : SrtW blt k N (sa + na) nb)
   (h : ∀ st', kindOf st' = kd → failedOf st' = none → Nmd a₀ (arrOf st') (N.take sa ++ mg blt k ((N.drop sa).take na) ((N.drop (sa + na)).take nb) ++ N.drop (sa + na + nb)) → pendingOf st' = ((pendingOf st).setIfInBounds i (sa, na + nb, pw)).eraseIdxIfInBounds (i + 1) → Q true st') : wpS (model prog w) A E s (mergeAt' i) Q st := by
 have zN := NA.size
 unfold mergeAt'
 refine wpS_bind (wpS_get ?_)
 change wpS (model prog w) A E s (match ((pendingOf st)[i]?, (pendingOf st)[i + 1]?) with | (some (sa, na, power), some (sb, nb, snd)) => _ | x => _) Q st
 rw [p1, p2]
 dsimp only
 refine wpS_bind (wpS_set ?_)
 obtain ⟨xb, eb, gb, rfl⟩ := NA.get (i := sa + na) (by omega)
 refine wpS_bind (elem_x eb ?_)
 refine wpS_bind (galWA W hC ki NA w1 gb (by omega) h1 fun p hp q1 q2 => ?_)
 dsimp only
 obtain ⟨rB, eB⟩ := seg_head (N := N) (lo := sa + na) h2 (by omega)
 have hX : mg blt k ((N.drop sa).take na) ((N.drop (sa + na)).take nb) = (N.drop sa).take p ++ mg blt k ((N.drop (sa + p)).take (na - p)) ((N.drop (sa + na)).take nb) := by
   rw [seg_cut N sa na p hp, eB, mg_as]
   intro x hx
   obtain ⟨j, j1, _, rfl⟩ := mem_segW hx
   exact q1 j j1
 refine wpS_ifB (fun z => ?_) fun z => ?_
 · have z := beq_iff_eq.mp z
   refine wpS_pure (h _ ki fa ?_ rfl)
   rw [hX, z, List.take_zero, mg_nil, show p = na by omega, ← seg_split]
   exact NA
 have z := beq_eq_false_iff_ne.mp z
 obtain ⟨xa, ea, ga, rfl⟩ := NA.get (i := sa + p + (na - p) - 1) (by omega)
 refine wpS_bind (elem_x ea ?_)
 refine wpS_bind (galWB W hC ki NA w2 ga (by omega) (by omega) fun q hq r1 r2 => ?_)
 dsimp only
 rw [show sa + p + (na - p) - 1 = sa + (na - 1) by omega] at r1 r2
 have hZ : mg blt k ((N.drop (sa + p)).take (na - p)) ((N.drop (sa + na)).take nb) = mg blt k ((N.drop (sa + p)).take (na - p)) ((N.drop (sa + na)).take q) ++ (N.drop (sa + na + q)).take (nb - q) := by
   rw [seg_cut N (sa + na) nb q hq, mg_bEnd]
   intro z hz x hx
   obtain ⟨j, j1, _, rfl⟩ := mem_segW hz
   obtain ⟨i', i1, _, rfl⟩ := mem_segW hx
   have e1 := w1.le W (show p + i' ≤ na - 1 by omega) (by omega)
   rw [show sa + (p + i') = sa + p + i' by omega] at e1
   have e2 := r2 (q + j) (by omega) (by omega)
   rw [show sa + na + (q + j) = sa + na + q + j by omega] at e2
   exact le_le W e1 e2
 refine wpS_ifB (fun z => ?_) fun z' => ?_
 · have z := beq_iff_eq.mp z
   refine wpS_pure (h _ ki fa ?_ rfl)
   rw [hX, hZ, z, List.take_zero, mg_nil2]
   have := seg_split N sa na nb
   rw [seg_cut N sa na p hp, List.append_assoc] at this
   simp only [Nat.add_zero, Nat.sub_zero, List.append_assoc] at this ⊢
   rw [← this]
   exact NA
 have z' := beq_eq_false_iff_ne.mp z'
 have A1 : Nmd a₀ ((arrOf st).extract (sa + p) (sa + na)) ((N.drop (sa + p)).take (na - p)) := by
   have := NA.cut (sa + p) (sa + na)
   rwa [show sa + na - (sa + p) = na - p by omega] at this
 have B1 : Nmd a₀ ((arrOf st).extract (sa + na) (sa + na + q)) ((N.drop (sa + na)).take q) := by
   have := NA.cut (sa + na) (sa + na + q)
   rwa [show sa + na + q - (sa + na) = q by omega] at this
 have sA : Srt blt k ((N.drop (sa + p)).take (na - p)) := (w1.cut (p := p) (m := na - p) (by omega)).seg (by omega)
 have sB : Srt blt k ((N.drop (sa + na)).take q) := by
   have := w2.cut (p := 0) (m := q) (by omega)
   rw [Nat.add_zero] at this
   exact this.seg (by omega)
 have lA : ((N.drop (sa + p)).take (na - p)).length = na - p := len_seg (by omega)
 have lB : ((N.drop (sa + na)).take q).length = q := len_seg (by omega)
 have hf : blt (k (((N.drop (sa + na)).take q).getD 0 0)) (k (((N.drop (sa + p)).take (na - p)).getD 0 0)) = true := by
   rw [getD_seg (by omega) (by omega), getD_seg (by omega) (by omega)]
   exact q2 p (Nat.le_refl _) (by omega)
 have hl : ∀ i, i < ((N.drop (sa + na)).take q).length → blt (k (((N.drop (sa + na)).take q).getD i 0)) (k (((N.drop (sa + p)).take (na - p)).getD (((N.drop (sa + p)).take (na - p)).length - 1) 0)) = true := fun i hi => by
   rw [lB] at hi
   rw [lA, getD_seg hi (by omega), getD_seg (by omega) (by omega), show sa + p + (na - p - 1) = sa + (na - 1) by omega]
   exact r1 i hi
 have fin : ∀ r st', Mrg blt k a₀ ((N.drop (sa + p)).take (na - p)) ((N.drop (sa + na)).take q) r → arrOf st' = arrOf st → Nmd a₀ (r.toList.zipIdx.foldl (fun a (p' : Keyed × Nat) => a.setIfInBounds (sa + p + p'.2) p'.1) (arrOf st')) (N.take sa ++ mg blt k ((N.drop sa).take na) ((N.drop (sa + na)).take nb) ++ N.drop (sa + na + nb)) := fun r st' mr e => by
   have ml : (mg blt k ((N.drop (sa + p)).take (na - p)) ((N.drop (sa + na)).take q)).length = na - p + q := by rw [mg_len, lA, lB]
   have := (show Nmd a₀ (arrOf st') N by rw [e]; exact NA).over (s := sa + p) mr (by rw [ml]; omega)
   rw [ml] at this
   have e1 : N.take (sa + p) = N.take sa ++ (N.drop sa).take p := List.take_add
   have e2 : N.drop (sa + p + (na - p + q)) = (N.drop (sa + na + q)).take (nb - q) ++ N.drop (sa + na + nb) := by
     rw [show sa + p + (na - p + q) = sa + na + q by omega]
     conv => lhs; rw [← List.take_append_drop (nb - q) (N.drop (sa + na + q)), List.drop_drop, show sa + na + q + (nb - q) = sa + na + nb by omega]
   rw [e1, e2] at this
   rw [hX, hZ]
   simp only [List.append_assoc] at this ⊢
   exact this
 by_cases c : na - p ≤ q
 · rw [if_pos c]
   refine wpS_bind (lo_st W hC ki A1 B1 sA sB (by omega) (by omega) hf (fun y hy => ?_) fun r st' mr kp => ?_)
   · obtain ⟨j, j1, j2, rfl⟩ := mem_cut (L := (N.drop (sa + na)).take q) (i := 0) (p := q) (by rw [List.drop_zero, List.take_of_length_le (by omega)]; exact hy)
     rw [Nat.zero_add] at j2 ⊢
     exact hl j j2
   · refine wpS_bind (wpS_modify (wpS_bind (wpS_get ?_)))
     have f' : failedOf st' = none := kp.fa.trans fa
     refine wpS_pure ?_
     change Q (failedOf st').isNone _
     rw [f']
     exact h _ (kp.ki.trans ki) f' (fin r st' mr kp.ar) kp.pe
 · rw [if_neg c]
   refine wpS_bind (hi_st W hC ki A1 B1 sA sB (by omega) (by omega) hf hl fun r st' mr kp => ?_)
   refine wpS_bind (wpS_modify (wpS_bind (wpS_get ?_)))
   have f' : failedOf st' = none := kp.fa.trans fa
   refine wpS_pure ?_
   change Q (failedOf st').isNone _
   rw [f']
   exact h _ (kp.ki.trans ki) f' (fin r st' mr kp.ar) kp.pe
end
end L6
namespace L6
open PySem PyProof.Rows
section
variable {prog : Program} {w : World} {A : Around} {E : Value → Shared → Prop} {s : Shared} {α : Type} {blt : α → α → Bool} {k : Nat → α} {a₀ : Array Keyed} {kd : SortKind} {ix : Nat → Nat} {st : SortSt} {lo : Nat} {N : List Nat} {pd : Array (Nat × Nat × Nat)}
structure So (a₀ : Array Keyed) (kd : SortKind) (pd : Array (Nat × Nat × Nat)) (lo : Nat) (N : List Nat) (ix : Nat → Nat) (st : SortSt) : Prop where
 sz : (arrOf st).size = a₀.size
 be : ∀ p, p < lo → (arrOf st)[p]? = a₀[N.getD p 0]?
 at_ : ∀ i, lo + i < a₀.size → (arrOf st)[lo + i]? = a₀[lo + ix i]?
 bj : Bij ix (a₀.size - lo)
 fa : failedOf st = none
 pe : pendingOf st = pd
 ki : kindOf st = kd
theorem lt_o {i j : Nat} {Q : Option Bool → SortSt → Prop} (hC : CmpOk prog w A s kd a₀ blt k) (b : So a₀ kd pd lo N ix st) (hi : lo + i < a₀.size) (hj : lo + j < a₀.size) (h : Q (some (blt (k (lo + ix i)) (k (lo + ix j)))) st) : wpS (model prog w) A E s (ltAt' (lo + i) (lo + j)) Q st := by
 have li := b.bj.lt i (by omega)
 have lj := b.bj.lt j (by omega)
 obtain ⟨⟨x, p⟩, gi⟩ : ∃ z, a₀[lo + ix i]? = some z := ⟨_, Array.getElem?_eq_getElem (by omega)⟩
 obtain ⟨⟨y, q⟩, gj⟩ : ∃ z, a₀[lo + ix j]? = some z := ⟨_, Array.getElem?_eq_getElem (by omega)⟩
 rw [ltAt'_eq]
 refine wpS_bind (wpS_get ?_)
 change wpS (model prog w) A E s (elem' (arrOf st) (lo + i) >>= fun x => elem' (arrOf st) (lo + j) >>= fun y => lt' x y) Q st
 rw [elem'_eq, elem'_eq, b.at_ i hi, b.at_ j hj, gi, gj]
 refine wpS_bind (wpS_pure (wpS_bind (wpS_pure ?_)))
 rw [lt'_eq]
 refine wpS_bind (wpS_get ?_)
 rw [b.ki]
 refine wpS_bind (wpS_lift (wpAny_attempt (hC _ _ _ _ _ _ _ _ gi gj ⟨rfl, ?_⟩)))
 exact wpS_pure h
theorem So.mix {i j : Nat} (b : So a₀ kd pd lo N ix st) (hj : lo + j ≤ a₀.size) : So a₀ kd pd lo N (mixF ix i j) (setArr st (mirror (arrOf st) (lo + i) (lo + j) ((lo + j - (lo + i)) / 2))) := by
 refine ⟨(mirror_size _ _ _ _).trans b.sz, fun p hp => ?_, fun p hp => ?_, b.bj.mix (by omega), b.fa, b.pe, b.ki⟩
 · show (mirror (arrOf st) (lo + i) (lo + j) ((lo + j - (lo + i)) / 2))[p]? = _
   rw [getElem?_mirror_all (by rw [b.sz]; exact hj), if_neg (by omega)]
   exact b.be p hp
 · show (mirror (arrOf st) (lo + i) (lo + j) ((lo + j - (lo + i)) / 2))[lo + p]? = _
   rw [getElem?_mirror_all (by rw [b.sz]; exact hj)]
   unfold mixF
   by_cases z : i ≤ p ∧ p < j
   · rw [if_pos (by omega), if_pos z, show lo + i + (lo + j) - 1 - (lo + p) = lo + (i + j - 1 - p) by omega]
     exact b.at_ _ (by omega)
   · rw [if_neg (by omega), if_neg z]
     exact b.at_ _ hp
theorem So.bub {q l : Nat} (b : So a₀ kd pd lo N ix st) (hq : lo + q < a₀.size) (hl : l ≤ q) : So a₀ kd pd lo N (bubF ix q l) (setArr st (bubble (arrOf st) (lo + q) (lo + q - (lo + l)))) := by
 refine ⟨(bubble_size _ _ _).trans b.sz, fun p hp => ?_, fun p hp => ?_, b.bj.bub (by omega) hl, b.fa, b.pe, b.ki⟩
 · show (bubble (arrOf st) (lo + q) (lo + q - (lo + l)))[p]? = _
   rw [getElem?_bubble (by rw [b.sz]; exact hq) _ (by omega), if_neg (by omega), if_neg (by omega)]
   exact b.be p hp
 · show (bubble (arrOf st) (lo + q) (lo + q - (lo + l)))[lo + p]? = _
   rw [getElem?_bubble (by rw [b.sz]; exact hq) _ (by omega)]
   unfold bubF
   by_cases z : p = l
   · rw [if_pos (by omega), if_pos z]
     exact b.at_ _ hq
   · rw [if_neg (by omega), if_neg z]
     by_cases y : l < p ∧ p ≤ q
     · rw [if_pos (by omega), if_pos y, show lo + p - 1 = lo + (p - 1) by omega]
       exact b.at_ _ (by omega)
     · rw [if_neg (by omega), if_neg y]
       exact b.at_ _ hp
theorem bin_o {n ok : Nat} {Q : Bool → SortSt → Prop} (W : WO blt) (hC : CmpOk prog w A s kd a₀ blt k) (hn : lo + n ≤ a₀.size) (hok : ok ≤ n) (h1 : 1 ≤ ok) (b : So a₀ kd pd lo N ix st) (up : Up blt (fun i => k (lo + i)) ix ok) (pr : Pre ix ok)
   (h : ∀ ix' st', So a₀ kd pd lo N ix' st' → Up blt (fun i => k (lo + i)) ix' n → Pre ix' n → Q true st') : wpS (model prog w) A E s (binarySort' lo n ok) Q st := by
 rw [binarySort'_eq]
 rw [show max ok 1 = ok by omega]
 refine wpS_bind (wpS_mono (wpS_forRange (I := fun q c st' => c = (none, ()) ∧ ∃ ix', So a₀ kd pd lo N ix' st' ∧ Up blt (fun i => k (lo + i)) ix' q ∧ Pre ix' q) (Q := fun c st' => c = (none, ()) ∧ ∃ ix', So a₀ kd pd lo N ix' st' ∧ Up blt (fun i => k (lo + i)) ix' n ∧ Pre ix' n) ?turn ?out ⟨rfl, ix, b, up, pr⟩) ?rest)
 case rest =>
   rintro c st' ⟨rfl, ix', b', u', p'⟩
   exact wpS_pure (h ix' st' b' u' p')
 case out =>
   rintro c st' ⟨hc, ix', b', u', p'⟩
   rw [show max ok n = n by omega] at u' p'
   exact ⟨hc, ix', b', u', p'⟩
 case turn =>
   rintro q c st' hq1 hq2 ⟨rfl, ix', b', u', p'⟩
   have hq : lo + q < a₀.size := by omega
   have eq := p'.id q (Nat.le_refl _)
   refine wpS_bind (wpS_mono (wpS_forRange (I := fun x c st2 => st2 = st' ∧ ∃ l r, c = (none, l, r) ∧ l ≤ r ∧ r ≤ q ∧ r - l ≤ q - x ∧ (∀ i, i < l → blt (k (lo + q)) (k (lo + ix' i)) = false) ∧ ∀ i, r ≤ i → i < q → blt (k (lo + q)) (k (lo + ix' i)) = true)
     (Q := fun c st2 => st2 = st' ∧ ∃ l r, c = (none, l, r) ∧ l ≤ q ∧ (∀ i, i < l → blt (k (lo + q)) (k (lo + ix' i)) = false) ∧ ∀ i, l ≤ i → i < q → blt (k (lo + q)) (k (lo + ix' i)) = true) ?tu ?ou ?bg) ?re)
   case bg => exact ⟨rfl, 0, q, rfl, by omega, Nat.le_refl _, by omega, fun i z => absurd z (by omega), fun i z z' => absurd z (by omega)⟩
   case ou =>
     rintro c st2 ⟨rfl, l, r, rfl, z1, z2, z3, z4, z5⟩
     have : l = r := by omega
     subst this
     exact ⟨rfl, l, l, rfl, z2, z4, z5⟩
   case tu =>
     rintro x c st2 _ hx ⟨rfl, l, r, rfl, z1, z2, z3, z4, z5⟩
     dsimp only
     by_cases ge : l ≥ r
     · rw [if_pos ge]
       have : l = r := by omega
       subst this
       exact wpS_pure ⟨rfl, l, l, rfl, z2, z4, z5⟩
     · rw [if_neg ge]
       refine wpS_bind (lt_o hC b' hq (j := (l + r) / 2) (by omega) ?_)
       rw [eq]
       cases le : blt (k (lo + q)) (k (lo + ix' ((l + r) / 2))) with
       | true =>
         simp only [if_true]
         refine wpS_pure ⟨rfl, l, (l + r) / 2, rfl, by omega, by omega, by omega, z4, fun i y1 y2 => ?_⟩
         by_cases e : i = (l + r) / 2
         · subst e; exact le
         · exact lt_of_le W le ((u' _ _ (show (l + r) / 2 < i by omega) y2).le W)
       | false =>
         simp only [Bool.false_eq_true, if_false]
         refine wpS_pure ⟨rfl, (l + r) / 2 + 1, r, rfl, by omega, by omega, by omega, fun i y1 => ?_, z5⟩
         by_cases e : i = (l + r) / 2
         · subst e; exact le
         · exact le_le W ((u' i _ (show i < (l + r) / 2 by omega) (by omega)).le W) le
   case re =>
     rintro c st2 ⟨rfl, l, r, rfl, z2, z4, z5⟩
     change wpS (model prog w) A E s (moveDown' (lo + q) (lo + l) >>= fun _ => pure (ForInStep.yield (none, ()))) _ st2
     rw [moveDown'_eq]
     exact wpS_bind (wpS_modify (wpS_pure ⟨rfl, bubF ix' q l, b'.bub hq z2, up_bub (k := fun i => k (lo + i)) u' p' z2 z4 z5, p'.bub z2⟩))
end
end L6
namespace L6
open PySem PyProof.Rows
section
variable {prog : Program} {w : World} {A : Around} {E : Value → Shared → Prop} {s : Shared} {α : Type} {blt : α → α → Bool} {k : Nat → α} {a₀ : Array Keyed} {kd : SortKind} {ix : Nat → Nat} {st : SortSt} {lo : Nat} {N : List Nat} {pd : Array (Nat × Nat × Nat)}
theorem run_o {n : Nat} {Q : Option Nat → SortSt → Prop} (W : WO blt) (hC : CmpOk prog w A s kd a₀ blt k) (hn : lo + n ≤ a₀.size) (h1 : 1 ≤ n) (b : So a₀ kd pd lo N (fun i => i) st)
   (h : ∀ m' ix' st', So a₀ kd pd lo N ix' st' → 1 ≤ m' → m' ≤ n → Up blt (fun i => k (lo + i)) ix' m' → Pre ix' m' → Q (some m') st') : wpS (model prog w) A E s (countRun' lo n) Q st := by
 have one : ∀ m, 1 ≤ m → lo + m - 1 = lo + (m - 1) := fun m hm => by omega
 rw [countRun'_eq]
 refine wpS_bind (wpS_mono (wpS_forRange (I := fun x c st' => st' = st ∧ c = (none, x) ∧ Up blt (fun i => k (lo + i)) (fun i => i) x) (Q := fun c st' => st' = st ∧ ∃ m, c = (none, m) ∧ 1 ≤ m ∧ m ≤ n ∧ Up blt (fun i => k (lo + i)) (fun i => i) m ∧ (m = n ∨ blt (k (lo + m)) (k (lo + (m - 1))) = true)) ?t1 ?o1 ⟨rfl, rfl, fun i j z z' => absurd z (by omega)⟩) ?r1)
 case o1 =>
   rintro c st' ⟨rfl, rfl, u⟩
   rw [show max 1 n = n by omega] at u ⊢
   exact ⟨rfl, n, rfl, h1, Nat.le_refl _, u, .inl rfl⟩
 case t1 =>
   rintro x c st' x1 x2 ⟨rfl, rfl, u⟩
   dsimp only
   rw [one x x1]
   refine wpS_bind (lt_o hC b (by omega) (by omega) ?_)
   cases le : blt (k (lo + x)) (k (lo + (x - 1))) with
   | true =>
     simp only [if_true]
     exact wpS_pure ⟨rfl, x, rfl, x1, by omega, u, .inr le⟩
   | false =>
     simp only [Bool.false_eq_true, if_false]
     exact wpS_pure ⟨rfl, rfl, up_one W u (by omega) (.inr ⟨le, by omega⟩)⟩
 case r1 =>
   rintro c st' ⟨rfl, m, rfl, z1, z2, u, o⟩
   dsimp only
   by_cases e : m = n
   · rw [if_pos (by simpa using e)]
     exact wpS_pure (h m _ _ b z1 z2 u Pre.idf)
   rw [if_neg (by simpa using e)]
   have lt := o.resolve_left e
   by_cases g : m > 1 <;> first
     | rw [if_pos g, one m z1]
       refine wpS_bind ?_
       rw [show ltAt' lo (lo + (m - 1)) = ltAt' (lo + 0) (lo + (m - 1)) from rfl]
       refine lt_o hC b (i := 0) (j := m - 1) (by omega) (by omega) ?_
       dsimp only
       refine wpS_ifB (fun ro => wpS_pure (h m _ _ b z1 z2 u Pre.idf)) fun ro => ?_
       refine wpS_bind (wpS_reverse ?_)
       have b1 : So a₀ kd pd lo N (mixF (fun i => i) 0 m) (setArr st' (mirror (arrOf st') lo (lo + m) ((lo + m - lo) / 2))) := b.mix (i := 0) (j := m) (by omega)
       have pr1 : Pre (mixF (fun i => i) 0 m) (m + 1) := (Pre.idf.mix (Nat.le_refl m)).more (by omega)
       have d1 : Des blt (fun i => k (lo + i)) (mixF (fun i => i) 0 m) (m + 1) 0 := by
         have al : ∀ i j, i < j → j < m → blt (k (lo + j)) (k (lo + i)) = false ∧ blt (k (lo + i)) (k (lo + j)) = false := fun i j y1 y2 => by
           refine ⟨(u i j y1 y2).le W, ?_⟩
           have a1 : blt (k (lo + i)) (k (lo + 0)) = false := by
             by_cases q : i = 0
             · subst q; exact W.irr _
             · exact (u 0 i (by omega) (by omega)).le W
           have a2 : blt (k (lo + (m - 1))) (k (lo + j)) = false := by
             by_cases q : j = m - 1
             · subst q; exact W.irr _
             · exact (u j (m - 1) (by omega) (by omega)).le W
           exact le_le W (le_le W a2 ro) a1
         refine des_one W (fun i j y1 y2 => ?_) (by omega) ?_
         · have e1 : mixF (fun i => i) 0 m i = m - 1 - i := by unfold mixF; rw [if_pos (by omega)]; show 0 + m - 1 - i = m - 1 - i; omega
           have e2 : mixF (fun i => i) 0 m j = m - 1 - j := by unfold mixF; rw [if_pos (by omega)]; show 0 + m - 1 - j = m - 1 - j; omega
           rw [e1, e2]
           exact .inr ⟨(al _ _ (by omega) (by omega)).1, by omega⟩
         · have e1 : mixF (fun i => i) 0 m m = m := by unfold mixF; rw [if_neg (by omega)]
           have e2 : mixF (fun i => i) 0 m (m - 1) = 0 := by unfold mixF; rw [if_pos (by omega)]; show 0 + m - 1 - (m - 1) = 0; omega
           rw [e1, e2]
           exact lt_of_le W lt ro
     | rw [if_neg g]
       have me : m = 1 := by omega
       have b1 := b
       have pr1 : Pre (fun i => i) (m + 1) := Pre.idf
       have d1 : Des blt (fun i => k (lo + i)) (fun i => i) (m + 1) 0 := by
         subst me
         exact des_one W (fun i j y1 y2 => absurd y1 (by omega)) (by omega) lt
   all_goals
     refine wpS_bind (wpS_lift (wpAny_rule ⟨rfl, ?_⟩))
     refine wpS_bind (wpS_mono (wpS_forRange (I := fun x c st' => ∃ q ix', c = (none, x, q) ∧ So a₀ kd pd lo N ix' st' ∧ Des blt (fun i => k (lo + i)) ix' x q ∧ Pre ix' x)
       (Q := fun c st' => ∃ m' q ix', c = (none, m', q) ∧ So a₀ kd pd lo N ix' st' ∧ m + 1 ≤ m' ∧ m' ≤ n ∧ Des blt (fun i => k (lo + i)) ix' m' q ∧ Pre ix' m') ?t2 ?o2 ⟨0, _, rfl, b1, d1, pr1⟩) ?r2)
     case o2 =>
       rintro c st' ⟨q, ix', rfl, b', d', p'⟩
       rw [show max (m + 1) n = n by omega] at d' p' ⊢
       exact ⟨n, q, ix', rfl, b', by omega, Nat.le_refl _, d', p'⟩
     case t2 =>
       rintro x c st' x1 x2 ⟨q, ix', rfl, b', d', p'⟩
       dsimp only
       have hq := d'.le
       rw [one x (by omega)]
       refine wpS_bind (lt_o hC b' (by omega) (by omega) ?_)
       cases le : blt (k (lo + ix' x)) (k (lo + ix' (x - 1))) with
       | true =>
         simp only [if_true]
         by_cases z : q > 0
         · rw [if_pos z, show lo + x - (q + 1) = lo + (x - (q + 1)) by omega]
           refine wpS_bind (wpS_reverse (wpS_pure ⟨0, _, rfl, b'.mix (by omega), ?_, (p'.mix (Nat.le_refl _)).more (by omega)⟩))
           refine des_one W d'.turn (by omega) ?_
           have e1 : mixF ix' (x - (q + 1)) x x = ix' x := by unfold mixF; rw [if_neg (by omega)]
           have e2 : mixF ix' (x - (q + 1)) x (x - 1) = ix' (x - (q + 1)) := by unfold mixF; rw [if_pos (by omega)]; congr 1; omega
           rw [e1, e2]
           have := d'.al (x - (q + 1)) (x - 1) (by omega) (by omega) (by omega)
           exact lt_of_le W le this.1
         · rw [if_neg z]
           have : q = 0 := by omega
           subst this
           exact wpS_pure ⟨0, ix', rfl, b', des_one W d'.dn (by omega) le, p'.more (by omega)⟩
       | false =>
         simp only [Bool.false_eq_true, if_false]
         refine wpS_bind (lt_o hC b' (by omega) (by omega) ?_)
         cases gr : blt (k (lo + ix' (x - 1))) (k (lo + ix' x)) with
         | true =>
           simp only [if_true]
           exact wpS_pure ⟨x, q, ix', rfl, b', x1, by omega, d', p'⟩
         | false =>
           simp only [Bool.false_eq_true, if_false]
           exact wpS_pure ⟨q + 1, ix', rfl, b', des_al W d' p' le gr, p'.more (by omega)⟩
     case r2 =>
       rintro c st2 ⟨m', q, ix', rfl, b', y1, y2, d', p'⟩
       dsimp only
       have hq := d'.le
       by_cases z : q > 0 <;> first
         | rw [if_pos z, show lo + m' - (q + 1) = lo + (m' - (q + 1)) by omega]
           refine wpS_bind (wpS_reverse ?_)
           have b2 := b'.mix (i := m' - (q + 1)) (j := m') (by omega)
           have d2 := d'.turn
           have p2 := p'.mix (i := m' - (q + 1)) (Nat.le_refl m')
         | rw [if_neg z]
           have qe : q = 0 := by omega
           subst qe
           have b2 := b'
           have d2 := d'.dn
           have p2 := p'
       all_goals
         refine wpS_bind (wpS_reverse ?_)
         have b3 := b2.mix (i := 0) (j := m') (by omega)
         have u3 := up_mix d2
         have p3 := p2.mix (i := 0) (Nat.le_refl m')
         refine wpS_bind (wpS_mono (wpS_forRange (I := fun x c st' => ∃ ix3, So a₀ kd pd lo N ix3 st' ∧ c = (none, x) ∧ Up blt (fun i => k (lo + i)) ix3 x ∧ Pre ix3 x) (Q := fun c st' => ∃ ix3 m3, So a₀ kd pd lo N ix3 st' ∧ c = (none, m3) ∧ 1 ≤ m3 ∧ m3 ≤ n ∧ Up blt (fun i => k (lo + i)) ix3 m3 ∧ Pre ix3 m3) ?t3 ?o3 ⟨_, b3, rfl, u3, p3⟩) ?r3)
         case o3 =>
           rintro c st' ⟨ix3, b4, rfl, u, p4⟩
           rw [show max m' n = n by omega] at u p4 ⊢
           exact ⟨ix3, n, b4, rfl, h1, Nat.le_refl _, u, p4⟩
         case r3 =>
           rintro c st' ⟨ix3, m3, b4, rfl, w1, w2, u, p4⟩
           exact wpS_pure (h m3 ix3 st' b4 w1 w2 u p4)
         case t3 =>
           rintro x c st' x1 x2 ⟨ix3, b4, rfl, u, p4⟩
           dsimp only
           rw [one x (by omega)]
           refine wpS_bind (lt_o hC b4 (by omega) (by omega) ?_)
           cases le : blt (k (lo + ix3 x)) (k (lo + ix3 (x - 1))) with
           | true =>
             simp only [if_true]
             exact wpS_pure ⟨ix3, x, b4, rfl, by omega, by omega, u, p4⟩
           | false =>
             simp only [Bool.false_eq_true, if_false]
             refine wpS_pure ⟨ix3, b4, rfl, up_one W u (by omega) (.inr ⟨le, ?_⟩), p4.more (by omega)⟩
             rw [p4.id x (Nat.le_refl _)]
             exact p4.lt _ (by omega)
end
end L6
namespace L6
open PySem PyProof.Rows
section
variable {α : Type} {blt : α → α → Bool} {k : Nat → α} {N N' : List Nat}
def SegOk (blt : α → α → Bool) (k : Nat → α) (N : List Nat) (s n : Nat) : Prop := ((N.drop s).take n).Pairwise (Rk blt k) ∧ ∀ x ∈ (N.drop s).take n, s ≤ x ∧ x < s + n
def Segs (blt : α → α → Bool) (k : Nat → α) (N : List Nat) : List (Nat × Nat × Nat) → Nat → Nat → Prop
 | [], s, e => s = e
 | (a, n, _) :: r, s, e => a = s ∧ 0 < n ∧ SegOk blt k N s n ∧ Segs blt k N r (s + n) e
theorem segs_le : ∀ {l : List (Nat × Nat × Nat)} {s e : Nat}, Segs blt k N l s e → s + l.length ≤ e
 | [], s, e, h => by have h : s = e := h; simp [h]
 | (a, n, p) :: r, s, e, h => by
   have := segs_le h.2.2.2
   have := h.2.1
   rw [List.length_cons]; omega
theorem segs_app : ∀ {l r : List (Nat × Nat × Nat)} {s e : Nat}, Segs blt k N (l ++ r) s e ↔ ∃ m, Segs blt k N l s m ∧ Segs blt k N r m e
 | [], r, s, e => ⟨fun h => ⟨s, rfl, h⟩, fun ⟨m, h1, h2⟩ => by have h1 : s = m := h1; rw [h1]; exact h2⟩
 | (a, n, p) :: l, r, s, e => by
   constructor
   · rintro ⟨h1, h2, h3, h4⟩
     obtain ⟨m, h5, h6⟩ := segs_app.mp h4
     exact ⟨m, ⟨h1, h2, h3, h5⟩, h6⟩
   · rintro ⟨m, ⟨h1, h2, h3, h5⟩, h6⟩
     exact ⟨h1, h2, h3, segs_app.mpr ⟨m, h5, h6⟩⟩
theorem seg_ext {s n : Nat} (hl : N'.length = N.length) (h : ∀ p, s ≤ p → p < s + n → N'.getD p 0 = N.getD p 0) : (N'.drop s).take n = (N.drop s).take n := by
 refine List.ext_getElem (by simp [hl]) fun i h1 h2 => ?_
 rw [List.length_take, List.length_drop] at h1 h2
 have := h (s + i) (by omega) (by omega)
 simp only [List.getD, List.getElem?_eq_getElem (show s + i < N'.length by omega), List.getElem?_eq_getElem (show s + i < N.length by omega), Option.getD_some] at this
 simpa using this
theorem segs_congr (hl : N'.length = N.length) : ∀ {l : List (Nat × Nat × Nat)} {s e : Nat}, Segs blt k N l s e → (∀ p, s ≤ p → p < e → N'.getD p 0 = N.getD p 0) → Segs blt k N' l s e
 | [], s, e, h, _ => h
 | (a, n, p) :: r, s, e, h, g => by
   have le := segs_le h.2.2.2
   refine ⟨h.1, h.2.1, ?_, segs_congr hl h.2.2.2 fun q q1 q2 => g q (by omega) q2⟩
   unfold SegOk
   rw [seg_ext hl fun q q1 q2 => g q q1 (by omega)]
   exact h.2.2.1
theorem segs_mod {f : Nat × Nat × Nat → Nat × Nat × Nat} (hf : ∀ a b c, (f (a, b, c)).1 = a ∧ (f (a, b, c)).2.1 = b) : ∀ {l : List (Nat × Nat × Nat)} {i s e : Nat}, Segs blt k N l s e → Segs blt k N (l.modify i f) s e
 | [], i, s, e, h => by simpa using h
 | (a, n, p) :: r, 0, s, e, h => by
   rw [List.modify_zero_cons]
   obtain ⟨z1, z2⟩ := hf a n p
   have : f (a, n, p) = (a, n, (f (a, n, p)).2.2) := Prod.ext z1 (Prod.ext z2 rfl)
   rw [this]
   exact h
 | (a, n, p) :: r, i + 1, s, e, h => by
   rw [List.modify_succ_cons]
   exact ⟨h.1, h.2.1, h.2.2.1, segs_mod hf h.2.2.2⟩
theorem SegOk.srt (W : WO blt) {s n : Nat} (h : SegOk blt k N s n) (hn : s + n ≤ N.length) : SrtW blt k N s n := fun i j hij hj => by
 have := List.pairwise_iff_getElem.mp h.1 i j (by rw [len_seg hn]; omega) (by rw [len_seg hn]; exact hj) hij
 have e : ∀ t, t < n → ∀ ht, ((N.drop s).take n)[t]'ht = N.getD (s + t) 0 := fun t ht hh => by
   rw [← getD_seg ht hn]
   unfold List.getD
   rw [List.getElem?_eq_getElem hh]
   rfl
 rw [e i (by omega), e j hj] at this
 exact this.le W
theorem SegOk.merge (W : WO blt) {s n m : Nat} (h1 : SegOk blt k N s n) (h2 : SegOk blt k N (s + n) m) (hN : s + n + m ≤ N.length) (N' : List Nat) (e : N' = N.take s ++ mg blt k ((N.drop s).take n) ((N.drop (s + n)).take m) ++ N.drop (s + n + m)) :
   N'.length = N.length ∧ SegOk blt k N' s (n + m) ∧ (∀ p, p < s → N'.getD p 0 = N.getD p 0) ∧ ∀ p, s + n + m ≤ p → N'.getD p 0 = N.getD p 0 := by
 have lm : (mg blt k ((N.drop s).take n) ((N.drop (s + n)).take m)).length = n + m := by rw [mg_len, len_seg (by omega), len_seg (by omega)]
 have lt : (N.take s).length = s := by rw [List.length_take]; omega
 have lN : N'.length = N.length := by rw [e, List.length_append, List.length_append, lm, lt, List.length_drop]; omega
 have seg : (N'.drop s).take (n + m) = mg blt k ((N.drop s).take n) ((N.drop (s + n)).take m) := by
   rw [e, List.append_assoc]
   have : (N.take s ++ (mg blt k ((N.drop s).take n) ((N.drop (s + n)).take m) ++ N.drop (s + n + m))).drop s = mg blt k ((N.drop s).take n) ((N.drop (s + n)).take m) ++ N.drop (s + n + m) := by
     conv => lhs; arg 1; rw [← lt]
     exact List.drop_left
   rw [this, ← lm, List.take_left]
 refine ⟨lN, ⟨?_, fun x hx => ?_⟩, fun p hp => ?_, fun p hp => ?_⟩
 · rw [seg]
   exact mg_sorted W h1.1 h2.1 fun x hx y hy => by have := h1.2 x hx; have := h2.2 y hy; omega
 · rw [seg] at hx
   rcases mg_mem.mp hx with z | z
   · have := h1.2 x z; omega
   · have := h2.2 x z; omega
 · rw [e, List.append_assoc]
   simp only [List.getD]
   rw [List.getElem?_append_left (by omega), List.getElem?_take, if_pos hp]
 · rw [e]
   simp only [List.getD]
   rw [List.getElem?_append_right (by rw [List.length_append, lm, lt]; omega), List.length_append, lm, lt, List.getElem?_drop, show s + n + m + (p - (s + (n + m))) = p by omega]
end
end L6
namespace L6
open PySem PyProof.Rows
theorem nd_len : ∀ {zs ys : List Nat}, zs.Nodup → (∀ z ∈ zs, z ∈ ys) → zs.length ≤ ys.length
 | [], ys, _, _ => Nat.zero_le _
 | z :: zs, ys, nd, h => by
   have n := List.nodup_cons.mp nd
   have hz := h z (by simp)
   have := nd_len (zs := zs) (ys := ys.erase z) n.2 fun x hx => (List.mem_erase_of_ne (show x ≠ z from fun e => n.1 (by rw [← e]; exact hx))).mpr (h x (by simp [hx]))
   rw [List.length_erase_of_mem hz] at this
   have := List.length_pos_of_mem hz
   rw [List.length_cons]; omega
section
variable {prog : Program} {w : World} {A : Around} {E : Value → Shared → Prop} {s : Shared} {α : Type} {blt : α → α → Bool} {k : Nat → α} {a₀ : Array Keyed} {kd : SortKind} {ix : Nat → Nat} {st : SortSt} {lo : Nat} {N : List Nat} {pd : Array (Nat × Nat × Nat)} {T : Nat → Nat}
structure RI (blt : α → α → Bool) (k : Nat → α) (a₀ : Array Keyed) (kd : SortKind) (T : Nat → Nat) (lo : Nat) (st : SortSt) : Prop where
 ki : kindOf st = kd
 fa : failedOf st = none
 le : lo ≤ a₀.size
 ex : ∃ N : List Nat, N.length = a₀.size ∧ Nmd a₀ (arrOf st) N ∧ (∀ p, lo ≤ p → p < a₀.size → N.getD p 0 = T p) ∧ Segs blt k N (pendingOf st).toList 0 lo
theorem two_at {β : Type} {l : List β} {i : Nat} (h : i + 1 < l.length) : ∃ a b, l = l.take i ++ a :: b :: l.drop (i + 2) ∧ l[i]? = some a ∧ l[i + 1]? = some b := by
 refine ⟨l[i], l[i + 1], ?_, List.getElem?_eq_getElem (by omega), List.getElem?_eq_getElem h⟩
 conv => lhs; rw [← List.take_append_drop i l, List.drop_eq_getElem_cons (show i < l.length by omega), List.drop_eq_getElem_cons (show i + 1 < l.length by omega)]
theorem mer_st {i : Nat} {Q : Bool → SortSt → Prop} (W : WO blt) (hC : CmpOk prog w A s kd a₀ blt k) (r : RI blt k a₀ kd T lo st) (hi : i + 1 < (pendingOf st).size) (h : ∀ st', RI blt k a₀ kd T lo st' → (pendingOf st').size + 1 = (pendingOf st).size → Q true st') : wpS (model prog w) A E s (mergeAt' i) Q st := by
 obtain ⟨N, hl, NA, idn, sg⟩ := r.ex
 have rle := r.le
 obtain ⟨⟨sA, nA, pA⟩, ⟨sB, nB, pB⟩, el, e1, e2⟩ := two_at (l := (pendingOf st).toList) (i := i) (by rw [Array.length_toList]; exact hi)
 have li : ((pendingOf st).toList.take i).length = i := by rw [List.length_take, Array.length_toList]; omega
 generalize hl1 : (pendingOf st).toList.take i = l1 at el li
 generalize hl2 : (pendingOf st).toList.drop (i + 2) = l2 at el
 rw [el] at sg
 obtain ⟨m, g1, g2⟩ := segs_app.mp sg
 obtain ⟨rfl, hA, okA, g3⟩ := g2
 obtain ⟨rfl, hB, okB, g4⟩ := g3
 have le4 := segs_le g4
 refine at_st (i := i) (sa := sA) (na := nA) (nb := nB) W hC r.ki r.fa NA (by rw [← Array.getElem?_toList]; exact e1) (by rw [← Array.getElem?_toList]; exact e2) hA hB (by omega) (okA.srt W (by omega)) (okB.srt W (by omega)) fun st' k1 k2 k3 k4 => ?_
 obtain ⟨lN, ok, q1, q2⟩ := okA.merge W okB (by omega) _ rfl
 have tl : (pendingOf st').toList = l1 ++ (sA, nA + nB, pA) :: l2 := by
   rw [k4, Array.toList_eraseIdxIfInBounds, Array.toList_setIfInBounds, el, ← li, List.set_append_right _ _ (Nat.le_refl _), Nat.sub_self, List.set_cons_zero, List.eraseIdx_append_of_length_le (by omega), show l1.length + 1 - l1.length = 1 by omega]
   rfl
 refine h st' ⟨k1, k2, rle, _, by rw [lN]; exact hl, k3, fun p p1 p2 => ?_, ?_⟩ ?_
 · rw [q2 p (by omega)]; exact idn p p1 p2
 · rw [tl]
   refine segs_app.mpr ⟨sA, segs_congr lN g1 fun p _ p2 => q1 p p2, rfl, by omega, ok, ?_⟩
   rw [show sA + (nA + nB) = sA + nA + nB by omega]
   exact segs_congr lN g4 fun p p1 _ => q2 p (by omega)
 · rw [← Array.length_toList, ← Array.length_toList, tl, el]
   simp
   omega
theorem so_in {N : List Nat} (NA : Nmd a₀ (arrOf st) N) (hl : N.length = a₀.size) (idn : ∀ p, lo ≤ p → p < a₀.size → N.getD p 0 = p) (ki : kindOf st = kd) (fa : failedOf st = none) (le : lo ≤ a₀.size) : So a₀ kd (pendingOf st) lo N (fun i => i) st := by
 have z := NA.size
 refine ⟨by rw [z, hl], fun p hp => ?_, fun i hi => ?_, Bij.idf, fa, rfl, ki⟩
 · obtain ⟨x, e1, e2, _⟩ := NA.get (i := p) (by omega)
   rw [e1, e2]
 · obtain ⟨x, e1, e2, _⟩ := NA.get (i := lo + i) (by omega)
   rw [idn (lo + i) (by omega) hi] at e2
   rw [e1, e2]
theorem so_out {m : Nat} (b : So a₀ kd pd lo N ix st) (hN : ∀ n ∈ N, n < a₀.size) (hl : N.length = a₀.size) (le : lo ≤ a₀.size) (hm : lo + m ≤ a₀.size) (up : Up blt (fun i => k (lo + i)) ix m) (pr : Pre ix m) :
   ∃ N' : List Nat, N'.length = a₀.size ∧ Nmd a₀ (arrOf st) N' ∧ (∀ p, p < lo → N'.getD p 0 = N.getD p 0) ∧ SegOk blt k N' lo m ∧ ∀ p, lo + m ≤ p → p < a₀.size → N'.getD p 0 = p := by
 have lt : (N.take lo).length = lo := by rw [List.length_take]; omega
 have gl : ∀ p, p < lo → (N.take lo ++ (List.range (a₀.size - lo)).map fun i => lo + ix i).getD p 0 = N.getD p 0 := fun p hp => by
   simp only [List.getD]
   rw [List.getElem?_append_left (by omega), List.getElem?_take, if_pos hp]
 have gr : ∀ i, lo + i < a₀.size → (N.take lo ++ (List.range (a₀.size - lo)).map fun i => lo + ix i).getD (lo + i) 0 = lo + ix i := fun i hi => by
   simp only [List.getD]
   rw [List.getElem?_append_right (by omega), lt, show lo + i - lo = i by omega, List.getElem?_map, List.getElem?_range (by omega)]
   rfl
 have lN : (N.take lo ++ (List.range (a₀.size - lo)).map fun i => lo + ix i).length = a₀.size := by rw [List.length_append, lt, List.length_map, List.length_range]; omega
 have inr : ∀ n ∈ (N.take lo ++ (List.range (a₀.size - lo)).map fun i => lo + ix i), n < a₀.size := fun n hn => by
   rcases List.mem_append.mp hn with z | z
   · exact hN n (List.mem_of_mem_take z)
   · obtain ⟨i, hi, rfl⟩ := List.mem_map.mp z
     have := b.bj.lt i (List.mem_range.mp hi)
     omega
 generalize hN' : (N.take lo ++ (List.range (a₀.size - lo)).map fun i => lo + ix i) = N' at gl gr lN inr
 refine ⟨N', lN, ⟨?_, inr⟩, gl, ?_, fun p p1 p2 => ?_⟩
 · refine List.ext_getElem? fun p => ?_
   rw [Array.getElem?_toList, List.getElem?_map]
   rcases Nat.lt_or_ge p a₀.size with hp | hp
   · have ge : N'[p]? = some (N'.getD p 0) := by
       unfold List.getD
       rw [List.getElem?_eq_getElem (by omega)]
       rfl
     have mem : N'.getD p 0 < a₀.size := inr _ (List.mem_of_getElem? ge)
     rw [ge, Option.map_some, ← at0_get mem]
     rcases Nat.lt_or_ge p lo with z | z
     · rw [gl p z]; exact b.be p z
     · obtain ⟨i, rfl⟩ : ∃ i, p = lo + i := ⟨p - lo, by omega⟩
       rw [gr i hp]; exact b.at_ i hp
   · rw [Array.getElem?_eq_none (by rw [b.sz]; exact hp), List.getElem?_eq_none (by omega)]
     rfl
 · have seg : ∀ i j, i < j → j < m → Rk blt k (N'.getD (lo + i) 0) (N'.getD (lo + j) 0) := fun i j hij hj => by
     rw [gr i (by omega), gr j (by omega)]
     rcases up i j hij hj with z | ⟨z, z'⟩
     · exact .inl z
     · exact .inr ⟨z, by omega⟩
   refine ⟨List.pairwise_iff_getElem.mpr fun i j h1 h2 hij => ?_, fun x hx => ?_⟩
   · have l := len_seg (N := N') (lo := lo) (n := m) (by omega)
     have e : ∀ t, t < m → ∀ ht, ((N'.drop lo).take m)[t]'ht = N'.getD (lo + t) 0 := fun t ht hh => by
       rw [← getD_seg ht (by omega)]
       unfold List.getD
       rw [List.getElem?_eq_getElem hh]
       rfl
     rw [e i (by omega), e j (by omega)]
     exact seg i j hij (by omega)
   · obtain ⟨j, j1, j2, rfl⟩ := mem_segW hx
     rw [gr j (by omega)]
     have := pr.lt j j1
     omega
 · obtain ⟨i, rfl⟩ : ∃ i, p = lo + i := ⟨p - lo, by omega⟩
   rw [gr i p2, pr.id i (by omega)]
end
end L6
namespace L6
open PySem PyProof.Rows
section
variable {prog : Program} {w : World} {A : Around} {E : Value → Shared → Prop} {s : Shared} {α : Type} {blt : α → α → Bool} {k : Nat → α} {a₀ : Array Keyed} {kd : SortKind} {st : SortSt}
theorem nmd_id (b : Sb a₀ kd (fun i => i) st) : Nmd a₀ (arrOf st) (List.range a₀.size) := by
 refine ⟨List.ext_getElem? fun p => ?_, fun n hn => List.mem_range.mp hn⟩
 rw [Array.getElem?_toList, List.getElem?_map]
 rcases Nat.lt_or_ge p a₀.size with hp | hp
 · rw [List.getElem?_range hp, Option.map_some, ← at0_get hp]
   exact b.at_ p hp
 · rw [Array.getElem?_eq_none (by rw [b.sz]; exact hp), List.getElem?_eq_none (by rw [List.length_range]; exact hp)]
   rfl
theorem runs_any {Q : Unit → SortSt → Prop} (W : WO blt) (hC : CmpOk prog w A s kd a₀ blt k) (b : Sb a₀ kd (fun i => i) st) (h2 : 2 ≤ a₀.size)
   (h : ∀ ix' st', (arrOf st').size = a₀.size → (∀ i, i < a₀.size → (arrOf st')[i]? = a₀[ix' i]?) → Bij ix' a₀.size → failedOf st' = none → Up blt k ix' a₀.size → Q () st') : wpS (model prog w) A E s sortRuns' Q st := by
 rw [sortRuns'_eq]
 refine wpS_bind (wpS_get ?_)
 dsimp only
 simp only [b.sz]
 have r0 : RI blt k a₀ kd (fun p => p) 0 st := ⟨b.ki, b.fa, Nat.zero_le _, List.range a₀.size, List.length_range, nmd_id b, fun p _ hp => by simp [List.getD, hp], by rw [b.pe]; rfl⟩
 refine wpS_bind (wpS_mono (wpS_forRange (I := fun x c st' => ∃ lo, c = (none, lo) ∧ RI blt k a₀ kd (fun p => p) lo st' ∧ (x ≤ lo ∨ lo = a₀.size)) (Q := fun c st' => c = (none, a₀.size) ∧ RI blt k a₀ kd (fun p => p) a₀.size st') ?turn ?out ⟨0, rfl, r0, .inl (Nat.le_refl _)⟩) ?rest)
 case out =>
   rintro c st' ⟨lo, rfl, r, o⟩
   have := r.le
   have : lo = a₀.size := by rcases o with o | o <;> omega
   subst this
   exact ⟨rfl, r⟩
 case turn =>
   rintro x c st' _ hx ⟨lo, rfl, r, o⟩
   dsimp only
   have rle := r.le
   by_cases ge : lo ≥ a₀.size
   · rw [if_pos ge]
     have : lo = a₀.size := by omega
     subst this
     exact wpS_pure ⟨rfl, r⟩
   rw [if_neg ge]
   obtain ⟨N, hl, NA, idn, sg⟩ := r.ex
   refine wpS_bind (run_o W hC (n := a₀.size - lo) (by omega) (by omega) (so_in NA hl idn r.ki r.fa rle) fun m ix1 st1 b1 m1 m2 u1 p1 => ?_)
   dsimp only
   have fin : ∀ (nn : Nat) (ix2 : Nat → Nat) (st2 : SortSt), So a₀ kd (pendingOf st') lo N ix2 st2 → 1 ≤ nn → lo + nn ≤ a₀.size → Up blt (fun i => k (lo + i)) ix2 nn → Pre ix2 nn → ∃ N' : List Nat, N'.length = a₀.size ∧ RI blt k a₀ kd (fun p => N'.getD p 0) lo st2 ∧ (∀ st3, RI blt k a₀ kd (fun p => N'.getD p 0) lo st3 → RI blt k a₀ kd (fun p => p) (lo + nn) (setPending st3 ((pendingOf st3).push (lo, nn, 0)))) := by
     intro nn ix2 st2 b2 n1 n2 u2 p2
     obtain ⟨N', l', A', e1, e2, e3⟩ := so_out b2 NA.2 hl rle n2 u2 p2
     refine ⟨N', l', ⟨b2.ki, b2.fa, rle, N', l', A', fun p _ _ => rfl, ?_⟩, fun st3 r3 => ?_⟩
     · rw [b2.pe]
       exact segs_congr (by omega) sg fun p _ hp => e1 p hp
     · obtain ⟨N3, l3, A3, t3, g3⟩ := r3.ex
       refine ⟨r3.ki, r3.fa, n2, N3, l3, A3, fun p p1 p2 => ?_, ?_⟩
       · rw [t3 p (by omega) p2]; exact e3 p p1 p2
       · show Segs blt k N3 ((pendingOf st3).push (lo, nn, 0)).toList 0 (lo + nn)
         rw [Array.toList_push]
         refine segs_app.mpr ⟨lo, g3, rfl, n1, ?_, rfl⟩
         unfold SegOk
         rw [seg_ext (N := N') (by omega) fun p p1 p2 => t3 p p1 (by omega)]
         exact e2
   have md : ∀ (T : Nat → Nat) (pw : Nat) (st3 : SortSt), RI blt k a₀ kd T lo st3 → RI blt k a₀ kd T lo (setPending st3 ((pendingOf st3).modify ((pendingOf st3).size - 1) fun x => (x.1, x.2.1, pw))) := by
     intro T pw st3 r3
     obtain ⟨N3, l3, A3, t3, g3⟩ := r3.ex
     refine ⟨r3.ki, r3.fa, r3.le, N3, l3, A3, t3, ?_⟩
     show Segs blt k N3 ((pendingOf st3).modify ((pendingOf st3).size - 1) fun x => (x.1, x.2.1, pw)).toList 0 lo
     rw [Array.toList_modify]
     exact segs_mod (fun _ _ _ => ⟨rfl, rfl⟩) g3
   by_cases lt : m < minRun' a₀.size a₀.size 0
   · rw [if_pos lt]
     refine wpS_bind (wpS_lift (wpAny_rule ⟨rfl, ?_⟩))
     generalize hnn : min (a₀.size - lo) (minRun' a₀.size a₀.size 0) = nn
     have n1 : 1 ≤ nn := by omega
     have n2 : lo + nn ≤ a₀.size := by omega
     refine wpS_bind (bin_o W hC n2 (by omega) m1 b1 u1 p1 fun ix2 st2 b2 u2 p2 => ?_)
     simp only [Bool.not_true, Bool.false_eq_true, if_false]
     clear hnn lt
     obtain ⟨N', l', r2, push⟩ := fin nn ix2 st2 b2 n1 n2 u2 p2
     clear fin
     refine wpS_bind (wpS_get ?_)
     cases hb : (pendingOf st2).back? with
     | none =>
       dsimp only
       exact wpS_bind (wpS_modify (wpS_pure ⟨lo + nn, rfl, push _ r2, by omega⟩))
     | some e =>
       obtain ⟨s1, l1, w1⟩ := e
       dsimp only
       generalize power' a₀.size (2 * s1 + l1) (2 * s1 + l1 + l1 + nn) a₀.size = pw
       refine wpS_bind (wpS_mono (wpS_forRange (I := fun _ c st3 => c = (none, ()) ∧ RI blt k a₀ kd (fun p => N'.getD p 0) lo st3) (Q := fun c st3 => c = (none, ()) ∧ RI blt k a₀ kd (fun p => N'.getD p 0) lo st3) ?_ (fun _ _ y => y) ⟨rfl, r2⟩) ?_)
       · rintro y c st3 _ _ ⟨rfl, r3⟩
         refine wpS_bind (wpS_get ?_)
         by_cases big : (pendingOf st3).size > 1
         · rw [if_pos big]
           cases hq : (pendingOf st3)[(pendingOf st3).size - 2]? with
           | none => exact wpS_pure ⟨rfl, r3⟩
           | some e =>
             obtain ⟨e1, e2, older⟩ := e
             dsimp only
             by_cases le : older ≤ pw
             · rw [if_pos le]
               exact wpS_pure ⟨rfl, r3⟩
             · rw [if_neg le]
               refine wpS_bind (mer_st W hC r3 (by omega) fun st4 r4 _ => ?_)
               simp only [Bool.not_true, Bool.false_eq_true, if_false]
               exact wpS_pure ⟨rfl, r4⟩
         · rw [if_neg big]
           exact wpS_pure ⟨rfl, r3⟩
       · rintro c st3 ⟨rfl, r3⟩
         dsimp only
         exact wpS_bind (wpS_modify (wpS_bind (wpS_modify (wpS_pure ⟨lo + nn, rfl, push _ (md _ pw _ r3), by omega⟩))))
   · rw [if_neg lt]
     have n2 : lo + m ≤ a₀.size := by omega
     obtain ⟨N', l', r2, push⟩ := fin m ix1 st1 b1 m1 n2 u1 p1
     clear fin lt
     generalize m = nn at *
     generalize st1 = st2 at *
     refine wpS_bind (wpS_get ?_)
     cases hb : (pendingOf st2).back? with
     | none =>
       dsimp only
       exact wpS_bind (wpS_modify (wpS_pure ⟨lo + nn, rfl, push _ r2, by omega⟩))
     | some e =>
       obtain ⟨s1, l1, w1⟩ := e
       dsimp only
       generalize power' a₀.size (2 * s1 + l1) (2 * s1 + l1 + l1 + nn) a₀.size = pw
       refine wpS_bind (wpS_mono (wpS_forRange (I := fun _ c st3 => c = (none, ()) ∧ RI blt k a₀ kd (fun p => N'.getD p 0) lo st3) (Q := fun c st3 => c = (none, ()) ∧ RI blt k a₀ kd (fun p => N'.getD p 0) lo st3) ?_ (fun _ _ y => y) ⟨rfl, r2⟩) ?_)
       · rintro y c st3 _ _ ⟨rfl, r3⟩
         refine wpS_bind (wpS_get ?_)
         by_cases big : (pendingOf st3).size > 1
         · rw [if_pos big]
           cases hq : (pendingOf st3)[(pendingOf st3).size - 2]? with
           | none => exact wpS_pure ⟨rfl, r3⟩
           | some e =>
             obtain ⟨e1, e2, older⟩ := e
             dsimp only
             by_cases le : older ≤ pw
             · rw [if_pos le]
               exact wpS_pure ⟨rfl, r3⟩
             · rw [if_neg le]
               refine wpS_bind (mer_st W hC r3 (by omega) fun st4 r4 _ => ?_)
               simp only [Bool.not_true, Bool.false_eq_true, if_false]
               exact wpS_pure ⟨rfl, r4⟩
         · rw [if_neg big]
           exact wpS_pure ⟨rfl, r3⟩
       · rintro c st3 ⟨rfl, r3⟩
         dsimp only
         exact wpS_bind (wpS_modify (wpS_bind (wpS_modify (wpS_pure ⟨lo + nn, rfl, push _ (md _ pw _ r3), by omega⟩))))
 case rest =>
   rintro c st' ⟨rfl, r⟩
   dsimp only
   have pl : (pendingOf st').size ≤ a₀.size := by
     obtain ⟨N, hl, NA, _, sg⟩ := r.ex
     have := segs_le sg
     rw [Array.length_toList] at this
     omega
   refine wpS_bind (wpS_mono (wpS_forRange (I := fun x c st2 => c = (none, ()) ∧ RI blt k a₀ kd (fun p => p) a₀.size st2 ∧ (pendingOf st2).size + x ≤ a₀.size) (Q := fun c st2 => c = (none, ()) ∧ RI blt k a₀ kd (fun p => p) a₀.size st2 ∧ (pendingOf st2).size ≤ 1) ?_ ?_ ⟨rfl, r, pl⟩) ?_)
   · rintro x c st2 _ hx ⟨rfl, r2, z⟩
     refine wpS_bind (wpS_get ?_)
     by_cases le : (pendingOf st2).size ≤ 1
     · rw [if_pos le]
       exact wpS_pure ⟨rfl, r2, le⟩
     · rw [if_neg le]
       refine wpS_bind (mer_st W hC r2 ?_ fun st4 r4 q4 => ?_)
       · by_cases c : (Option.any (fun x => decide (x < (pendingOf st2)[(pendingOf st2).size - 2 + 1]?.elim 0 fun x => x.snd.fst)) (if (pendingOf st2).size - 2 > 0 then Option.map (fun x => x.snd.fst) (pendingOf st2)[(pendingOf st2).size - 2 - 1]? else none)) = true
         · rw [if_pos c]; omega
         · rw [if_neg c]; omega
       · simp only [Bool.not_true, Bool.false_eq_true, if_false]
         exact wpS_pure ⟨rfl, r4, by omega⟩
   · rintro c st2 ⟨rfl, r2, z⟩
     exact ⟨rfl, r2, by omega⟩
   · rintro c st2 ⟨rfl, r2, z⟩
     dsimp only
     refine wpS_pure ?_
     obtain ⟨N, hl, NA, _, sg⟩ := r2.ex
     rw [← Array.length_toList] at z
     generalize (pendingOf st2).toList = l at sg z
     match l, sg, z with
     | [], sg, _ => exact absurd (show 0 = a₀.size from sg) (by omega)
     | [(_, n, _)], sg, _ =>
       obtain ⟨_, _, ok, e⟩ := sg
       have e : 0 + n = a₀.size := e
       obtain rfl : n = a₀.size := by omega
       have ee : (N.drop 0).take a₀.size = N := by rw [List.drop_zero, List.take_of_length_le (by omega)]
       have pw := ok.1
       rw [ee] at pw
       have rk : ∀ i j, i < j → j < a₀.size → Rk blt k (N.getD i 0) (N.getD j 0) := fun i j hij hj => by
         have := List.pairwise_iff_getElem.mp pw i j (by omega) (by omega) hij
         simpa [List.getD, List.getElem?_eq_getElem (show i < N.length by omega), List.getElem?_eq_getElem (show j < N.length by omega)] using this
       have irr : ∀ a, ¬ Rk blt k a a := fun a h => by
         rcases h with h | ⟨_, h⟩
         · rw [W.irr] at h; cases h
         · omega
       have nd : N.Nodup := List.Pairwise.imp (S := fun x y => x ≠ y) (fun {x y} h (e : x = y) => irr x (by rw [← e] at h; exact h)) pw
       have gt : ∀ i, i < a₀.size → N[i]? = some (N.getD i 0) := fun i hi => by
         unfold List.getD
         rw [List.getElem?_eq_getElem (by omega)]
         rfl
       have lt : ∀ i, i < a₀.size → N.getD i 0 < a₀.size := fun i hi => NA.2 _ (List.mem_of_getElem? (gt i hi))
       refine h (fun i => N.getD i 0) st2 (by rw [NA.size, hl]) (fun i hi => ?_) ⟨lt, fun i j hi hj e => ?_, fun p hp => ?_⟩ r2.fa rk
       · obtain ⟨x, e1, e2, _⟩ := NA.get (i := i) (by omega)
         rw [e1, e2]
       · rcases Nat.lt_trichotomy i j with t | t | t
         · exact absurd (rk i j t hj) (by rw [show N.getD i 0 = N.getD j 0 from e]; exact irr _)
         · exact t
         · exact absurd (rk j i t hi) (by rw [show N.getD i 0 = N.getD j 0 from e]; exact irr _)
       · by_cases mem : p ∈ N
         · obtain ⟨i, hi, e⟩ := List.getElem_of_mem mem
           refine ⟨i, by omega, ?_⟩
           show N.getD i 0 = p
           unfold List.getD
           rw [List.getElem?_eq_getElem hi, e]
           rfl
         · have := nd_len (zs := p :: N) (ys := List.range a₀.size) (List.nodup_cons.mpr ⟨mem, nd⟩) fun z hz => List.mem_range.mpr (by
             rcases List.mem_cons.mp hz with rfl | hz
             · exact hp
             · exact NA.2 z hz)
           rw [List.length_cons, List.length_range, hl] at this
           omega
end
end L6
namespace HK
open PySem PySem.Spec PyProof.Rows
mutual
def hk : PyData → Bool
 | .int _ => true
 | .str _ => true
 | .tuple ds => hks ds
 | _ => false
def hks : List PyData → Bool
 | [] => true
 | d :: ds => hk d && hks ds
end
mutual
def hD (w : World) : PyData → Int
 | .int i => hashInt i
 | .str x => hashStr w x
 | .tuple ds => reduceHash (Builtin.Tuple.tupleHashOf (hDs w ds))
 | _ => 0
def hDs (w : World) : List PyData → List Int
 | [] => []
 | d :: ds => hD w d :: hDs w ds
end
mutual
def bv : PyData → Bool
 | .int _ => true
 | .tuple ds => bvs ds
 | _ => false
def bvs : List PyData → Bool
 | [] => true
 | d :: ds => bv d && bvs ds
end
mutual
def dr : PyData → Nat
 | .tuple ds => drs ds + 1
 | _ => 1
def drs : List PyData → Nat
 | [] => 0
 | d :: ds => dr d + drs ds
end
end HK
namespace HK
open PySem PySem.Spec PyProof.Rows PySem.W
mutual
def dlt : PyData → PyData → Bool
 | .int i, .int j => decide (i < j)
 | .str x, .str y => decide (x.cps.toList < y.cps.toList)
 | .tuple xs, .tuple ys => dlts xs ys
 | _, _ => false
def dlts : List PyData → List PyData → Bool
 | [], [] => false
 | [], _ :: _ => true
 | _ :: _, [] => false
 | x :: xs, y :: ys => if PyData.eqv x y then dlts xs ys else dlt x y
end
end HK
namespace HK
open PySem PySem.Spec PyProof.Rows SX L6
section
variable {prog : Program} {w : World} {A : Around} {E : Value → Shared → Prop} {s : Shared}
abbrev sortH (h : Heap) (a : Addr) (vs : List Value) : Heap := ((h.update a (Obj.mapSeq fun _ => #[])).push (seqObj "tuple" vs.toArray 0)).push (seqObj "list" #[] 0)
end
end HK
namespace HK
open PySem PySem.Spec PyProof.Rows SX L6
section
variable {prog : Program} {w : World} {A : Around} {E : Value → Shared → Prop} {s : Shared}
theorem sort_keysA {α : Type} {blt : α → α → Bool} {k : Nat → α} {a : Addr} {vs : List Value} {n : Nat} {P : PySem.Fin → Shared → Prop} (ho : s.heap.get? a = some (seqObj "list" vs.toArray n)) (h64 : vs.length ≤ 1000000) (K : KeysOk prog w A { s with heap := sortH s.heap a vs } vs vs blt k)
   (h : ∀ ix, Ord blt k vs.length ix → P (.done (.ret .none)) { s with heap := sortedHeap s.heap a vs (pickV vs ix).toArray }) : wpAny (model prog w) A (Builtin.«list.sort» ⟨[.ref a], []⟩) P E s := by
 rw [list_sort_plain]
 have ha : a < s.heap.objs.size := Heap.lt_size ho
 refine wpAny_bind (listItems_at ho rfl ?_)
 refine wpAny_bind (listUpdate_at ho rfl ?_)
 obtain ⟨e1, ho1⟩ : ∃ e1, (s.heap.update a (Obj.mapSeq fun _ => #[])).get? a = some (seqObj "list" #[] e1) := ⟨_, get?_update_seq ho (fun _ => #[])⟩
 refine wpAny_bind (seqEpoch_at ho1 rfl ?_)
 refine wpAny_bind (wpAny_newTuple ?_)
 refine wpAny_bind (wpAny_newList ?_)
 refine wpAny_holding ?_
 have ho6 : (sortH s.heap a vs).get? a = some (seqObj "list" #[] e1) := by
   rw [Heap.get?_push_ne _ _ _ (by rw [size_push', Heap.size_update]; exact Nat.ne_of_lt (Nat.lt_succ_of_lt ha)), Heap.get?_push_ne _ _ _ (by rw [Heap.size_update]; exact Nat.ne_of_lt ha)]
   exact ho1
 show wpAny (model prog w) A _ P E { s with heap := sortH s.heap a vs }
 dsimp only
 have hz : (vs.toArray.zip vs.toArray).size = vs.length := by simp
 have fin : ∀ (st' : SortSt) ix, (arrOf st').size = vs.length → (∀ i, i < vs.length → (arrOf st')[i]? = (vs.toArray.zip vs.toArray)[ix i]?) → failedOf st' = none → Ord blt k vs.length ix →
     wpAny (model prog w) A (do
       let touched := (← seqEpoch a) != e1
       Builtin.List.listUpdate (.ref a) fun _ => (arrOf st').map (·.2)
       if let some e := failedOf st' then rule "list.sort.comparison-raised"; throw e
       if touched then rule "list.sort.modified"; raiseError "ValueError" "list modified during sort"
       ret .none) P E { s with heap := sortH s.heap a vs } := fun st' ix z1 z2 z3 o => by
   have ep := pick_at rfl o.bj z1 z2
   refine wpAny_bind (seqEpoch_at ho6 rfl ?_)
   refine wpAny_bind (listUpdate_at ho6 rfl ?_ (hsz2 := by
     rw [sizeLine_eq, ep]
     simp [pickV]
     omega))
   rw [z3]
   simp only [bne_self_eq_false, Bool.false_eq_true, if_false]
   rw [ep]
   exact wpAny_pure (h ix o)
 by_cases h2 : vs.toArray.size < 2
 · rw [if_pos h2, if_pos h2]
   refine wpAny_bind (wpAny_pure ?_)
   rw [StateT.run_pure]
   refine wpAny_bind (wpAny_pure ?_)
   have h2' : vs.length < 2 := by simpa using h2
   exact fin (SortSt.mk' general' (vs.toArray.zip vs.toArray) #[] 7 none) (fun i => i) hz (fun i _ => rfl) rfl ⟨Bij.idf, fun i j z1 z2 => by omega⟩
 · rw [if_neg h2, if_neg h2]
   have h2' : 2 ≤ vs.length := by simpa using h2
   obtain ⟨kd, kk, cm⟩ := K.kd h2'
   refine wpAny_bind (kk _ _ ?_)
   refine wpAny_bind (wpAny_mono (runs_any (kd := kd) (st := SortSt.mk' kd (vs.toArray.zip vs.toArray) #[] 7 none) (Q := fun _ st' => ∃ ix, (arrOf st').size = vs.length ∧ (∀ i, i < vs.length → (arrOf st')[i]? = (vs.toArray.zip vs.toArray)[ix i]?) ∧ failedOf st' = none ∧ Ord blt k vs.length ix)
     K.wo cm ⟨rfl, fun i _ => rfl, Bij.idf, rfl, rfl, rfl⟩ (by omega) fun ix st' z1 z2 z3 z4 z5 => ?_) ?_ fun _ _ e => e)
   · rw [hz] at z1 z2 z3 z5
     exact ⟨ix, z1, z2, z4, z3, z5⟩
   · rintro ⟨⟨⟩, st'⟩ s' ⟨rfl, ix, z1, z2, z3, z4⟩
     exact fin st' ix z1 z2 z3 z4
end
end HK
namespace L3
open PySem PySem.Spec
open PyProof.Rows hiding St
open L2 L6
theorem nodup_of_map {α β : Type} {f : α → β} {l : List α} (h : (l.map f).Nodup) : l.Nodup := by
 have h := List.pairwise_map.mp h
 exact h.imp fun {a b} h e => h (congrArg f e)
theorem in_nice {n b n' b' : Nat} {neg : Bool} {d : PyData} {es : List PyData} (h : Nice n b d) (h' : Nice n' b' (.tuple es)) (hn : n ≤ 60 := by decide) {q : Bool} (hq : q = true ↔ d ∈ es) : inF neg d (.list es) = some (.o (.bool (if neg then !q else q))) := by
 have e1 : es.any (fun y => PyData.eqv y d) = q := by
   have hs := h'.sol
   have all : ∀ y ∈ es, solid y = true := by
     have go : ∀ l : List PyData, solids l = true → ∀ y ∈ l, solid y = true := by
       intro l
       induction l with
       | nil => intro _ y hy; simp at hy
       | cons a l ih =>
         intro hl y hy
         simp only [solids, Bool.and_eq_true] at hl
         rcases List.mem_cons.mp hy with z | z
         · rw [z]; exact hl.1
         · exact ih hl.2 y z
     exact go es (by simpa [solid] using hs)
   have : (es.any fun y => PyData.eqv y d) = true ↔ q = true := by
     rw [hq, List.any_eq_true]
     constructor
     · rintro ⟨y, hy, e⟩
       rw [← (eqv_solid y d (all y hy) h.sol).mp e]
       exact hy
     · intro hd
       exact ⟨d, hd, (eqv_solid d d h.sol h.sol).mpr rfl⟩
   generalize (es.any fun y => PyData.eqv y d) = z at this ⊢
   cases z <;> cases q <;> simp_all
 have hl : PyData.canLayAll0 es = true := by have := h'.lay; simpa [PyData.canLay0] using this
 have key : inF neg d (.list es) = if (okD d && PyData.canLayAll0 es) = true then some (.o (.bool (if neg then !es.any (fun y => PyData.eqv y d) else es.any fun y => PyData.eqv y d))) else none := by
   cases d <;> rfl
 rw [key, h.okD hn, hl, Bool.and_self, if_pos rfl, e1]
end L3
namespace L3
open PySem PySem.Spec
open PyProof.Rows hiding St
open L2 L6
theorem isAll_str {K : PySem.W.Frag} {F : Addr → Prop} {H : Hp} : ∀ ys : List Str, IsAll K F H (ys.map V.str) (ys.map .str)
 | [] => .nil
 | y :: ys => .cons (.str y) (isAll_str ys)
end L3
namespace L6
open PySem PySem.Spec PyProof.Rows
theorem Ord.perm {α β : Type} {blt : α → α → Bool} {k : Nat → α} {n : Nat} {ix : Nat → Nat} (o : Ord blt k n ix) {d : β} {l : List β} (hl : l.length = n) : ((List.range n).map fun i => l.getD (ix i) d).Perm l := by
 have p : ((List.range n).map ix).Perm (List.range n) := by
   refine (List.perm_ext_iff_of_nodup ?_ List.nodup_range).mpr fun x => ?_
   · refine List.pairwise_iff_getElem.mpr fun i j h1 h2 hij e => ?_
     simp only [List.getElem_map, List.getElem_range] at e
     simp only [List.length_map, List.length_range] at h1 h2
     have := o.bj.inj i j h1 h2 e
     omega
   · rw [List.mem_map, List.mem_range]
     constructor
     · rintro ⟨i, hi, rfl⟩; exact o.bj.lt i (List.mem_range.mp hi)
     · intro hx
       obtain ⟨i, hi, e⟩ := o.bj.sur x hx
       exact ⟨i, List.mem_range.mpr hi, e⟩
 have q := p.map fun i => l.getD i d
 rw [List.map_map] at q
 have e : ((List.range n).map fun i => l.getD i d) = l := by
   refine List.ext_getElem (by simp [hl]) fun i h1 h2 => ?_
   simp [List.getD, List.getElem?_eq_getElem h2]
 rw [e] at q
 exact q
theorem rising_of : ∀ {r : List Str} {p : Str}, (p :: r).Pairwise (fun x y => ¬ y.cps.toList < x.cps.toList) → risingS p r = true
 | [], p, _ => rfl
 | x :: r, p, h => by
   have c := List.pairwise_cons.mp h
   have : ltCps x.cps.toList p.cps.toList = false := by
     cases e : ltCps x.cps.toList p.cps.toList with
     | false => rfl
     | true => rw [ltCps_eq] at e; exact absurd (of_decide_eq_true e) (c.1 x (by simp))
   show (!ltCps x.cps.toList p.cps.toList && risingS x r) = true
   rw [this, rising_of c.2]
   rfl
theorem sorted_of {l : List Str} (h : l.Pairwise fun x y => ¬ y.cps.toList < x.cps.toList) : sortedS l = true := by
 cases l with
 | nil => rfl
 | cons x r => exact rising_of h
end L6
namespace HK
open PySem PySem.Spec PyProof.Rows SX L6
section
variable {prog : Program} {w : World} {A : Around} {E : Value → Shared → Prop} {s : Shared}
theorem sort_strA {a : Addr} {vs : List Value} {ss : List Str} {n : Nat} {P : PySem.Fin → Shared → Prop} (ho : s.heap.get? a = some (seqObj "list" vs.toArray n)) (hS : StrsAre vs ss) (h64 : vs.length ≤ 1000000)
   (h : ∀ (out : Array Value) (zs : List Str), StrsAre out.toList zs → zs.Perm ss → sortedS zs = true → P (.done (.ret .none)) { s with heap := sortedHeap s.heap a vs out }) : wpAny (model prog w) A (Builtin.«list.sort» ⟨[.ref a], []⟩) P E s := by
 have ln := StrsAre.length hS
 refine sort_keysA ho h64 (keys_txt (xs := ss) rfl fun i v hv => ?_) fun ix o => ?_
 · obtain ⟨y, t, rfl, hy⟩ := hS.item i v hv
   exact ⟨t, by rw [List.getD_eq_getElem?_getD, hy]; rfl⟩
 · refine h _ ((List.range vs.length).map fun i => ss.getD (ix i) Str.empty) ?_ (o.perm ln.symm) (sorted_of ?_)
   · have go : ∀ l : List Nat, (∀ i ∈ l, i < vs.length) → StrsAre (l.map fun i => vs.getD (ix i) .none) (l.map fun i => ss.getD (ix i) Str.empty) := by
       intro l
       induction l with
       | nil => intro _; exact .nil
       | cons i l ih =>
         intro hl
         have hx := o.bj.lt i (hl i (by simp))
         obtain ⟨t, ht⟩ := hS.get (ix i) (ss[ix i]'(by omega)) (List.getElem?_eq_getElem (by omega))
         rw [List.map_cons, List.map_cons, List.getD_eq_getElem?_getD, List.getD_eq_getElem?_getD, ht, List.getElem?_eq_getElem (show ix i < ss.length by omega)]
         exact .cons _ t (ih fun j hj => hl j (by simp [hj]))
     exact go _ fun i hi => List.mem_range.mp hi
   · refine List.pairwise_iff_getElem.mpr fun i j h1 h2 hij => ?_
     simp only [List.length_map, List.length_range] at h1 h2
     simp only [List.getElem_map, List.getElem_range]
     rcases o.up i j hij h2 with z | ⟨z, _⟩
     · exact fun z' => absurd (List.lt_trans (of_decide_eq_true z) z') (List.lt_irrefl _)
     · exact of_decide_eq_false z
end
end HK
namespace L3
open PySem PySem.Spec
open PyProof.Rows hiding St
open L2 L6
theorem lt_tot {a b : List Nat} (h : ¬ a < b) (h' : ¬ b < a) : a = b := List.le_antisymm (List.not_lt.mp h') (List.not_lt.mp h)
theorem rising_pw : ∀ {p : List Nat} {ws : List (List Nat)}, risingS (tx p) (ws.map tx) = true → (p :: ws).Pairwise fun a b => ¬ b < a
 | p, [], _ => by simp
 | p, x :: r, h => by
   have h : (!ltCps (tx x).cps.toList (tx p).cps.toList && risingS (tx x) (r.map tx)) = true := h
   rw [Bool.and_eq_true, tx_toList, tx_toList, ltCps_eq] at h
   have h1 : ¬ x < p := by simpa using h.1
   have h2 := rising_pw h.2
   refine List.pairwise_cons.mpr ⟨fun y hy => ?_, h2⟩
   rcases List.mem_cons.mp hy with rfl | hy
   · exact h1
   · have h3 := (List.pairwise_cons.mp h2).1 y hy
     intro z
     have e1 : p ≤ x := List.not_lt.mp h1
     have e2 : x ≤ y := List.not_lt.mp h3
     exact List.not_lt.mpr (List.le_trans e1 e2) z
theorem sorted_pw {ws : List (List Nat)} (h : sortedS (ws.map tx) = true) (nd : ws.Nodup) : ws.Pairwise fun a b => a < b := by
 have : ws.Pairwise fun a b => ¬ b < a := by
   cases ws with
   | nil => simp
   | cons p r => exact rising_pw h
 refine (this.and nd).imp fun {a b} h => ?_
 exact Classical.byContradiction fun z => h.2 (lt_tot z h.1)
theorem txs_of (zs : List Str) : ∃ gs : List (List Nat), zs = gs.map tx := by
 refine ⟨zs.map fun s => s.cps.toList, ?_⟩
 rw [List.map_map]
 refine (List.map_id'' (fun s => ?_) zs).symm
 show tx s.cps.toList = s
 cases s
 rfl
theorem mem_tx {x : List Nat} {l : List (List Nat)} : tx x ∈ l.map tx ↔ x ∈ l := ⟨fun h => by obtain ⟨y, hy, e⟩ := List.mem_map.mp h; rw [tx_inj e] at hy; exact hy, fun h => List.mem_map.mpr ⟨x, h, rfl⟩⟩
end L3
namespace L3
open PySem PySem.Spec
open PyProof.Rows hiding St
open L2 L6
theorem in_niceT {n b n' b' : Nat} {neg : Bool} {d : PyData} {es : List PyData} (h : Nice n b d) (h' : Nice n' b' (.tuple es)) (hn : n ≤ 60 := by decide) {q : Bool} (hq : q = true ↔ d ∈ es) : inF neg d (.tuple es) = some (.o (.bool (if neg then !q else q))) := by
 rw [← in_nice (neg := neg) h h' hn hq]
 cases d <;> rfl
theorem sorted_uni {zs ys : List Str} (h1 : sortedS zs = true) (h2 : sortedS ys = true) (n1 : zs.Nodup) (n2 : ys.Nodup) (m : ∀ k, k ∈ zs ↔ k ∈ ys) : zs = ys := by
 obtain ⟨a, rfl⟩ := txs_of zs
 obtain ⟨b, rfl⟩ := txs_of ys
 have p1 := sorted_pw h1 (nodup_of_map n1)
 have p2 := sorted_pw h2 (nodup_of_map n2)
 have mm : ∀ x, x ∈ a ↔ x ∈ b := fun x => by rw [← mem_tx (l := a), ← mem_tx (l := b)]; exact m _
 have pm : a.Perm b := perm_of_mem (nodup_of_map n1) (nodup_of_map n2) mm
 rw [List.Perm.eq_of_pairwise (le := fun a b => a < b) (fun x y _ _ z1 z2 => absurd (List.lt_trans z1 z2) (List.lt_irrefl _)) p1 p2 pm]
end L3
namespace SX
open PySem PySem.Spec PyProof.Rows
section
variable {P : Program} {w : World} {A : Around} {E : Value → Shared → Prop} {s : Shared} {it S : Addr} {es : Es} {ep : Nat} {t : SetTable}
theorem sorted_setA {Q : Value → Shared → Prop} (hh : A.handled = none) (T : Tx P w s.heap S es ep t) (h64 : es.size ≤ 1000000)
   (k : ∀ (h' : Heap) (d' : Drawn) (tk : Nat) (out : Array Value) (c : Nat) (zs : List Str) (l : Addr), Ext s.heap h' → s.heap.objs.size ≤ l → h'.get? l = some (seqObj "list" out c) → StrsAre out.toList zs → zs.Perm (keys es) → sortedS zs = true → Q (.ref l) { s with heap := h', drawn := d', toks := tk }) :
   wpAny (model P w) A (call (.builtin "sorted") [.ref S]) Q E s := by
 refine Calls.call_function_entry kind_sorted plain_sorted entry_sorted (args_sorted1 _) ?_
 unfold Builtin.«sorted»
 refine wpAny_bind (m := checkCount "sorted" 1 1 _) (wpAny_pure ?_)
 refine wpAny_bind (collect_set (by simpa using hh) T.toSx fun h' d' tk vs ex hp hl => ?_)
 have v64 : vs.length ≤ 1000000 := by rw [hp.length_eq]; simpa using h64
 refine wpAny_bind (wpAny_newList ?_ (by rw [sizeLine_eq]; omega))
 have hS : StrsAre vs (vs.map strOf) := strs_of fun v z => by
   obtain ⟨e, he, rfl⟩ := List.mem_map.mp (hp.mem_iff.mp z)
   obtain ⟨⟨x, hx, _⟩, _⟩ := T.el e he
   obtain ⟨u, hu⟩ := Value.isStrOf_shape hx
   exact ⟨x, u, hu⟩
 have eL : (h'.push (seqObj "list" vs.toArray 0)).get? h'.objs.size = some (seqObj "list" vs.toArray 0) := Heap.get?_push_size _ rfl
 refine wpAny_bind (wpAny_holding (wpAny_call_entry slot_list_sort ⟨_, eL, rfl⟩ entry_list_sort (HK.sort_strA (s := { s with heap := h'.push (seqObj "list" vs.toArray 0), drawn := d', toks := tk }) eL hS v64 fun out zs z1 z2 z3 => ⟨_, rfl, ?_⟩) (args_list_sort _)))
 obtain ⟨c, ec⟩ := sortedHeap_at (out := out) eL
 refine wpAny_pure ⟨_, rfl, k _ d' tk _ c zs h'.objs.size (fun b o e => ?_) (Nat.le_of_lt hl) ec z1 ?_ z3⟩
 · have eb := ex b o e
   have nb : b ≠ h'.objs.size := Nat.ne_of_lt (Heap.lt_size eb)
   show (sortedHeap (h'.push (seqObj "list" vs.toArray 0)) h'.objs.size vs _).get? b = _
   rw [sortedHeap_old nb (by rw [size_push']; exact Nat.lt_succ_of_lt (Heap.lt_size eb))]
   exact Heap.get?_push_of_some _ eb
 · refine z2.trans ?_
   have := hp.map strOf
   rw [List.map_map] at this
   exact this
end
end SX
namespace L3
open PySem PySem.Spec
open PyProof.Rows hiding St
open L2 L6
open SX
def tSSA (K : PySem.W.Frag) (te : TE) : TE := fun σ H Q => te σ H fun v H1 => ∃ ys : List Str, TxsV K H1 v ys ∧ ys.length ≤ 4090 ∧ ∀ (zs : List Str) p, zs.Nodup → (∀ k, k ∈ zs ↔ k ∈ ys) → sortedS zs = true → H1 p = none → Q (.ref p) (upd H1 p (.lst (zs.map V.str)))
theorem pe_sortsetA {X : Cx} {e : Expr} {te : TE} {p1 p2 p3 p4 : Pos} (hc : X.calm = true) (gl : Gl X "sorted") (ml : X.mg "sorted" = none) (gr : Gl X "set") (mr : X.mg "set" = none) (he : PE X e te)
   (s1 : starEach [.Call (.Name "set" p2) [e] [] p3] X.env = (false, eval (.Call (.Name "set" p2) [e] [] p3) X.env) :: starEach [] X.env := by rfl) (s2 : starEach [e] X.env = (false, eval e X.env) :: starEach [] X.env := by rfl) :
   PE X (.Call (.Name "sorted" p1) [.Call (.Name "set" p2) [e] [] p3] [] p4) (tSSA X.K te) := by
 intro pins s σ H Q I h
 have calm := I.ok.hd hc
 refine wpAny_Call_Name_kw (ld_blt I gl ml bt_sorted ?_)
 refine PyProof.Rows.callWith_builtin1 ?_ s1
 rw [s1]
 show wpAny _ _ (spliced ((false, eval (.Call (.Name "set" p2) [e] [] p3) X.env) :: [])) _ _ s
 refine Calls.spliced_cons ?_
 refine wpAny_Call_Name_kw (ld_blt I gr mr (u := .type "set") rfl ?_)
 refine PyProof.Rows.callWith_type1 ?_ s2
 rw [s2]
 show wpAny _ _ (spliced ((false, eval e X.env) :: [])) _ _ s
 refine Calls.spliced_cons (thn (he pins s σ H _ I h) fun u s' ⟨y, H1, I1, r1, ys, hy, hz, q⟩ => ?_)
 refine Calls.spliced_nil ?_
 have fin : ∀ (n : Nat) (val : Nat → Str) (h' : Heap) (tk : Nat) (es : Es) (ep : Nat) (t : SetTable), (∀ k, (∃ j, j < n ∧ val j = k) ↔ k ∈ ys) → Tx X.prog X.w h' s'.heap.objs.size es ep t → (∀ x, x ∈ keys es ↔ ∃ j, j < n ∧ val j = x) → Ext s'.heap h' →
     wpAny (model X.prog X.w) X.A (spliced []) (fun a s₁ => wpAny (model X.prog X.w) X.A (call (.builtin "sorted") (Value.ref s'.heap.objs.size :: a)) (EP X pins σ Q) X.xe s₁) X.xe { s' with heap := h', toks := tk } := fun n val h' tk es ep t hv T hk ex => by
   have mem : ∀ k, k ∈ keys es ↔ k ∈ ys := fun k => (hk k).trans (hv k)
   have z64 : es.size ≤ 1000000 := by
     have := len_nodup T.nd (fun k hk => (mem k).mp hk)
     simp [keys] at this
     omega
   refine Calls.spliced_nil ?_
   refine sorted_setA (s := { s' with heap := h', toks := tk }) calm T z64 fun h2 d2 tk2 out c zs l ex2 hl el st zp zs' => ?_
   have lt' : s'.heap.objs.size ≤ l := Nat.le_trans (Nat.le_of_lt (T.lts (s := { s' with heap := h', toks := tk }))) hl
   have I2 := (Inv.draw (I1.laid (a := l) (o := .lst (zs.map V.str)) (t' := tk2) (h' := h2) (fun b o e => ex2 b o (ex b o e)) lt' ?_) d2)
   · exact ⟨.ref l, _, I2, rfl, q zs l (zp.nodup_iff.mpr T.nd) (fun k => by rw [zp.mem_iff]; exact mem k) zs' (I1.hok.fresh lt')⟩
   · refine ⟨?_, out.toList, c, vals_of_strs st, by simpa using el⟩
     rw [List.length_map, zp.length_eq]
     simp only [keys, List.length_map, Array.length_toList]
     exact fits_of_scanBound T.lt
 rcases hy with ⟨x, rfl, rfl⟩ | ⟨a, rfl, hq⟩
 · obtain ⟨tk, rfl⟩ := r1
   have hn : x.cps.size ≤ 4090 := by simpa using hz
   refine call_setT (T := "str") (val := fun i => sg (x.cps.getD i 0)) calm (fun _ _ => rfl) ?_ ?_ (by decide) (src_tx x tk) (fun i v hv => ?_) (by unfold scanBound; omega) fun h' tk' es ep t T hk ex => fin x.cps.size _ h' tk' es ep t (fun k => ?_) T hk ex
   · rw [isSubtype_type]; kernel_rfl
   · rw [isSubtype_type]; kernel_rfl
   · obtain ⟨c, u, hc, rfl⟩ := hv
     exact ⟨u, by rw [Array.getD_eq_getD_getElem?, hc]; rfl⟩
   · constructor
     · rintro ⟨j, hj, rfl⟩
       exact List.mem_map.mpr ⟨x.cps[j], by simp, by simp [hj]⟩
     · intro hk
       obtain ⟨c, hc, rfl⟩ := List.mem_map.mp hk
       obtain ⟨j, hj, e⟩ := List.getElem_of_mem hc
       have hj' : j < x.cps.size := by simpa using hj
       exact ⟨j, hj', by simp at e; simp [hj', e]⟩
 · cases r1
   obtain ⟨its, rv, pl, hz2⟩ := I1.list hq
   have sa := vals_str rv
   have ln : its.length = ys.length := by have := rv.length; simp at this; exact this.symm
   refine call_setT (T := "list") (val := fun i => ys.getD i (sg 0)) calm (fun s₁ ex => ?_) F.sub_list_set F.sub_list_frozenset (by decide) (src_ls pl.isList) (fun i v hv => ?_) (by unfold scanBound; simp; omega) fun h' tk' es ep t T hk ex => fin _ _ h' tk' es ep t (fun k => ?_) T hk ex
   · obtain ⟨o, e, c, _⟩ := pl.isList
     exact ⟨o, ex _ o e, c⟩
   · have hv' : its[i]? = some v := by simpa using hv
     have hi : i < ys.length := by
       obtain ⟨z, _⟩ := List.getElem?_eq_some_iff.mp hv'
       omega
     obtain ⟨u, hu, ru⟩ := rv.get (i := i) (x := V.str ys[i]) (by rw [List.getElem?_map, List.getElem?_eq_getElem hi]; rfl)
     rw [hv'] at hu
     cases hu
     obtain ⟨u, rfl⟩ := ru
     exact ⟨u, by rw [List.getD_eq_getElem?_getD, List.getElem?_eq_getElem hi]; rfl⟩
   · have e : its.toArray.size = ys.length := by simpa using ln
     rw [e]
     constructor
     · rintro ⟨j, hj, rfl⟩
       rw [List.getD_eq_getElem?_getD, List.getElem?_eq_getElem hj]
       exact List.getElem_mem hj
     · intro hk
       obtain ⟨j, hj, e⟩ := List.getElem_of_mem hk
       exact ⟨j, hj, by rw [List.getD_eq_getElem?_getD, List.getElem?_eq_getElem hj]; exact e⟩
def ssDA (f : DE) : DE := fun ρ Q => f ρ fun r => ∃ ys : List Str, TxsD r.d ys ∧ ys.length ≤ 4090 ∧ ∀ zs : List Str, zs.Nodup → (∀ k, k ∈ zs ↔ k ∈ ys) → sortedS zs = true → Q (.n (zs.map .str))
theorem ed_ssA {K : PySem.W.Frag} {O : Ob} {te : TE} {f : DE} (h : ED K O te f) : ED K O (tSSA K te) (ssDA f) := fun σ H ρ Q Qd S hf k => by
 refine h σ H ρ _ _ S hf fun v H1 r s1 o1 ⟨ys, hy, hl, q⟩ => ?_
 have i := o1.is S.ok S.p
 have ok := S.ok
 have p1 := s1.p S.p
 refine ⟨ys, ?_, hl, fun zs p h1 h2 h3 hn => ?_⟩
 · rcases hy with ⟨x, e, rfl⟩ | e
   · rw [e] at i
     cases i
     exact .inl ⟨x, rfl, rfl⟩
   · rw [e] at i
     cases i with
     | list f1 a1 b1 =>
       rw [isAll_strs b1] at a1
       exact .inr ⟨_, rfl, .of a1⟩
 · obtain ⟨a1, a2⟩ := out_list (K := K) ok hn (strs_isAll zs)
   exact k _ _ _ (s1.trans a1) (a2.ahead ok S.p s1) (q zs h1 h2 h3)
theorem e_sortsetA {ι κ : Type} {P : Program} {w : World} {K : PySem.W.Frag} {mg : Str → Option Value} {base : Heap} {k : Nat} {X : ι → Cx} {O : κ → Ob} {a : Expr} {fa : DE} {p1 p2 p3 p4 : Pos} (C : Ctx3 P w K mg base k X) (B : Blt mg) (ha : E3 K X O a fa) (g1 : ∀ i, Gl (X i) "sorted" := by intro i; rfl) (g2 : ∀ i, Gl (X i) "set" := by intro i; rfl)
   (s1 : ∀ i, starEach [.Call (.Name "set" p2) [a] [] p3] (X i).env = (false, eval (.Call (.Name "set" p2) [a] [] p3) (X i).env) :: starEach [] (X i).env := by intro i; rfl) (s2 : ∀ i, starEach [a] (X i).env = (false, eval a (X i).env) :: starEach [] (X i).env := by intro i; rfl) :
   E3 K X O (.Call (.Name "sorted" p1) [.Call (.Name "set" p2) [a] [] p3] [] p4) (ssDA fa) :=
 let ⟨_, q, d⟩ := ha
 ⟨tSSA K _, fun i => by
   have h := pe_sortsetA (X := X i) (p1 := p1) (p2 := p2) (p3 := p3) (p4 := p4) (C.calm i) (g1 i) (by rw [C.hmg]; exact B.sorted) (g2 i) (by rw [C.hmg]; exact B.set) (q i) (s1 i) (s2 i)
   rw [C.hK] at h
   exact h, fun j => ed_ssA (d j)⟩
def rSortA (K : PySem.W.Frag) : List V → Hp → VK → Prop := fun xs H Q => ∃ (p : Addr) (ys : List Str), xs = [.ref p] ∧ SqL K H p (ys.map V.str) ∧ ys.length ≤ 1000000 ∧ ∀ (zs : List Str) l, zs.Perm ys → sortedS zs = true → H l = none → Q (.ref l) (upd H l (.lst (zs.map V.str)))
theorem call_sortA {X : Cx} : CallR X (.builtin "sorted") (rSortA X.K) := by
 intro pins s σ H xs us Q I r h
 obtain ⟨p, ys, rfl, hH, hz, q⟩ := h
 obtain ⟨u, rfl, ru⟩ := Vals.one r
 cases ru
 obtain ⟨its, rv, pl, hsz⟩ := I.list hH
 obtain ⟨o, e, c, n, dt⟩ := pl.isList
 have hlen : its.length = ys.length := by have := rv.length; rw [List.length_map] at this; exact this.symm
 have sz := sizeLine_eq
 refine Calls.call_function_entry kind_sorted plain_sorted entry_sorted (args_sorted1 _) ?_
 unfold Builtin.«sorted»
 refine wpAny_bind (m := checkCount "sorted" 1 1 _) (wpAny_pure ?_)
 refine wpAny_bind (wpAny_collect_seq p (.inl rfl) e c dt (fun h' ex => ?_) (by simp; omega))
 have hS : StrsAre its ys := vals_str rv
 show wpAny _ _ (newList its >>= _) _ _ _
 refine wpAny_bind (wpAny_newList ?_ (by rw [sizeLine_eq]; omega))
 have eL : (h'.push (seqObj "list" its.toArray 0)).get? h'.objs.size = some (seqObj "list" its.toArray 0) := Heap.get?_push_size _ rfl
 refine wpAny_bind (wpAny_holding (wpAny_call_entry slot_list_sort ⟨_, eL, rfl⟩ entry_list_sort (HK.sort_strA (s := { s with heap := h'.push (seqObj "list" its.toArray 0) }) eL hS (by omega) fun out zs z1 z2 z3 => ⟨_, rfl, ?_⟩) (args_list_sort _)))
 obtain ⟨c', ec⟩ := sortedHeap_at (out := out) eL
 have I' : Inv X pins σ H { s with heap := h' } := I.kept (t' := s.toks) ex
 have hn : H h'.objs.size = none := I'.hok.fresh (Nat.le_refl _)
 refine wpAny_pure ⟨_, rfl, .ref h'.objs.size, _, I'.laid (a := h'.objs.size) (o := .lst (zs.map V.str)) (t' := s.toks) (fun b o eb => ?_) (Nat.le_refl _) ?_, rfl, q zs _ z2 z3 hn⟩
 · have eb : h'.get? b = some o := eb
   have nb : b ≠ h'.objs.size := Nat.ne_of_lt (Heap.lt_size eb)
   show (sortedHeap (h'.push (seqObj "list" its.toArray 0)) h'.objs.size its _).get? b = _
   rw [sortedHeap_old nb (by rw [size_push']; exact Nat.lt_succ_of_lt (Heap.lt_size eb))]
   exact Heap.get?_push_of_some _ eb
 · refine ⟨?_, _, c', vals_of_strs z1, by rw [Array.toArray_toList]; exact ec⟩
   rw [List.length_map, z2.length_eq]
   omega
section
variable {K : PySem.W.Frag} {O : Ob}
def sortDA : List PyData → (R → Prop) → Prop := fun ds Q => ∃ ys : List Str, ds = [.list (ys.map .str)] ∧ ys.length ≤ 1000000 ∧ ∀ zs : List Str, zs.Perm ys → sortedS zs = true → Q (.n (zs.map .str))
theorem cd_sortA : CallD K O (rSortA K) sortDA := fun H vs ds Q Qd ok p is ⟨ys, e, hl, q⟩ k => by
 subst e
 obtain ⟨v, rfl, iv⟩ := isAll_one is
 cases iv with
 | list f1 h1 s1 =>
   rw [isAll_strs s1] at h1
   refine ⟨_, ys, rfl, .of h1, hl, fun zs l h2 h3 hn => ?_⟩
   obtain ⟨a1, a2⟩ := out_list (K := K) ok hn (isAll_str zs)
   exact k _ _ _ a1 a2 (q zs h2 h3)
end
theorem e_sortedA {ι κ : Type} {P : Program} {w : World} {K : PySem.W.Frag} {mg : Str → Option Value} {base : Heap} {k : Nat} {X : ι → Cx} {O : κ → Ob} {a : Expr} {ga : DA} {p pos : Pos} (C : Ctx3 P w K mg base k X) (B : Blt mg) (ha : A3 K X O [a] ga) (hg : ∀ i, Gl (X i) "sorted" := by intro i; rfl) (he : ∀ i, starEach [a] (X i).env = (false, eval a (X i).env) :: starEach [] (X i).env := by intro i; rfl) : E3 K X O (.Call (.Name "sorted" p) [a] [] pos) (callDE sortDA ga) :=
 e_blt C (fun i => by have h := call_sortA (X := X i); rw [C.hK] at h; exact h) (fun _ => cd_sortA) bt_sorted B.sorted ha hg (by decide) (by decide) he
end L3
namespace L3
open PySem PySem.Spec
open PyProof.Rows hiding St
open L2
structure Ar where
 p : Nat
 c : Nat
 q : Nat
structure Mc where
 n : Nat
 b : Nat
 e : List Nat
 a : List Ar
def Ar.enc (x : Ar) : PyData := .tuple [.int (x.p : Nat), .str (tx [x.c]), .int (x.q : Nat)]
def Mc.enc (m : Mc) : PyData := .tuple [.int (m.n : Nat), .int (m.b : Nat), .tuple (m.e.map fun r => .int (r : Nat)), .tuple (m.a.map Ar.enc)]
structure Mc.Ok (m : Mc) : Prop where
 n1 : 1 ≤ m.n
 n4 : m.n ≤ 4
 b : m.b < m.n
 e : ∀ r ∈ m.e, r < m.n
 el : m.e.length ≤ 4
 al : m.a.length ≤ 6
 a : ∀ x ∈ m.a, x.p < m.n ∧ x.q < m.n
 ls : ∃ ls : List Nat, ls.length ≤ 3 ∧ (∀ c ∈ ls, c < 1000) ∧ ∀ x ∈ m.a, x.c ∈ ls
def Mc.Run (m : Mc) : Nat → List Nat → Nat → Prop
 | r, [], r' => r = r'
 | r, c :: w, r' => ∃ q, Ar.mk r c q ∈ m.a ∧ m.Run q w r'
theorem Mc.run_snoc {m : Mc} : ∀ {w : List Nat} {r r' : Nat} {c : Nat}, m.Run r (w ++ [c]) r' ↔ ∃ q, m.Run r w q ∧ Ar.mk q c r' ∈ m.a
 | [], r, r', c => ⟨fun ⟨q, h, e⟩ => ⟨r, rfl, by have e : q = r' := e; rw [← e]; exact h⟩, fun ⟨q, e, h⟩ => ⟨r', by have e : r = q := e; rw [e]; exact h, rfl⟩⟩
 | d :: w, r, r', c => by
   constructor
   · rintro ⟨q, h, z⟩
     obtain ⟨t, z1, z2⟩ := Mc.run_snoc.mp z
     exact ⟨t, ⟨q, h, z1⟩, z2⟩
   · rintro ⟨t, ⟨q, h, z1⟩, z2⟩
     exact ⟨q, h, Mc.run_snoc.mpr ⟨t, z1, z2⟩⟩
def Mc.Acc (m : Mc) (w : List Nat) : Prop := ∃ e ∈ m.e, m.Run m.b w e
abbrev Sw := List Nat × Nat
def Sw.key (s : Sw) : List Key := [.inr (tx s.1), .inl (s.2 : Nat)]
def sInj {s t : Sw} (h : s.key = t.key) : s = t := by
 have h1 := (List.cons.inj h).1
 have h2 := (List.cons.inj (List.cons.inj h).2).1
 have e1 : tx s.1 = tx t.1 := Sum.inr.inj h1
 have e2 : ((s.2 : Nat) : Int) = (t.2 : Nat) := Sum.inl.inj h2
 have e3 : s.1 = t.1 := by have := congrArg (fun x : Str => x.cps.toList) e1; simpa [tx] using this
 exact Prod.ext e3 (by omega)
def addS (l : List Sw) (s : Sw) : List Sw := if l.contains s then l else l ++ [s]
theorem addT_key {l : List Sw} {s : Sw} : addT (l.map Sw.key) s.key = (addS l s).map Sw.key := by
 unfold addT addS
 by_cases h : s ∈ l
 · rw [if_pos (mem_any.mpr (List.mem_map.mpr ⟨s, h, rfl⟩)), if_pos (by simpa using h)]
 · rw [if_neg, if_neg (by simpa using h), List.map_append]
   · rfl
   · intro z
     obtain ⟨t, ht, e⟩ := List.mem_map.mp (mem_any.mp z)
     exact h (sInj e ▸ ht)
theorem mem_addS {l : List Sw} {s t : Sw} : t ∈ addS l s ↔ t ∈ l ∨ t = s := by
 unfold addS
 by_cases h : l.contains s = true
 · rw [if_pos h]
   exact ⟨.inl, fun z => z.elim id fun e => by rw [e]; simpa using h⟩
 · rw [if_neg h]; simp
theorem len_addS {l : List Sw} {s : Sw} : (addS l s).length ≤ l.length + 1 := by
 unfold addS
 split
 · omega
 · simp
def mcA (s : Sw) (acc : List Sw) (x : Ar) : List Sw := if x.p = s.2 then addS acc (s.1 ++ [x.c], x.q) else acc
def mcS (m : Mc) (acc : List Sw) (s : Sw) : List Sw := m.a.foldl (mcA s) acc
def nextS (m : Mc) (l : List Sw) : List Sw := l.foldl (mcS m) []
def sts (m : Mc) : Nat → List Sw
 | 0 => [([], m.b)]
 | t + 1 => nextS m (sts m t)
def endsAt (m : Mc) (l : List Sw) : List (List Nat) := (l.filter fun s => m.e.contains s.2).map (·.1)
def foundS (m : Mc) : Nat → List (List Nat)
 | 0 => []
 | t + 1 => foundS m t ++ endsAt m (sts m t)
theorem mem_mcA {s t : Sw} {acc : List Sw} {x : Ar} : t ∈ mcA s acc x ↔ t ∈ acc ∨ (x.p = s.2 ∧ t = (s.1 ++ [x.c], x.q)) := by
 unfold mcA
 by_cases h : x.p = s.2
 · rw [if_pos h, mem_addS]; simp [h]
 · rw [if_neg h]; simp [h]
theorem mem_foldA {s t : Sw} : ∀ {l : List Ar} {acc : List Sw}, t ∈ l.foldl (mcA s) acc ↔ t ∈ acc ∨ ∃ x ∈ l, x.p = s.2 ∧ t = (s.1 ++ [x.c], x.q)
 | [], acc => by simp
 | x :: l, acc => by
   rw [List.foldl_cons, mem_foldA, mem_mcA]
   simp only [List.mem_cons, exists_eq_or_imp, or_assoc]
theorem mem_foldS {m : Mc} {t : Sw} : ∀ {l acc : List Sw}, t ∈ l.foldl (mcS m) acc ↔ t ∈ acc ∨ ∃ s ∈ l, ∃ x ∈ m.a, x.p = s.2 ∧ t = (s.1 ++ [x.c], x.q)
 | [], acc => by simp
 | s :: l, acc => by
   rw [List.foldl_cons, mem_foldS]
   unfold mcS
   rw [mem_foldA]
   simp only [List.mem_cons, exists_eq_or_imp, or_assoc]
theorem mem_sts {m : Mc} : ∀ {t : Nat} {s : Sw}, s ∈ sts m t ↔ s.1.length = t ∧ m.Run m.b s.1 s.2
 | 0, (w, r) => by
   simp only [sts, List.mem_singleton, List.length_eq_zero_iff]
   constructor
   · rintro ⟨rfl, rfl⟩; exact ⟨rfl, rfl⟩
   · rintro ⟨rfl, h⟩; exact Prod.ext rfl (show r = m.b from (show m.b = r from h).symm)
 | t + 1, (w, r) => by
   show (w, r) ∈ nextS m (sts m t) ↔ _
   unfold nextS
   rw [mem_foldS]
   constructor
   · rintro (h | ⟨s, hs, x, hx, e1, e2⟩)
     · cases h
     · obtain ⟨l, run⟩ := mem_sts.mp hs
       cases e2
       exact ⟨by simp [l], Mc.run_snoc.mpr ⟨s.2, run, by rw [← e1]; exact hx⟩⟩
   · rintro ⟨l, run⟩
     have l : w.length = t + 1 := l
     obtain ⟨v, c, rfl⟩ : ∃ v c, w = v ++ [c] := ⟨w.dropLast, w.getLast (by intro z; rw [z] at l; cases l), (List.dropLast_concat_getLast _).symm⟩
     obtain ⟨q, z1, z2⟩ := Mc.run_snoc.mp run
     exact .inr ⟨(v, q), mem_sts.mpr ⟨by simpa using l, z1⟩, _, z2, rfl, rfl⟩
theorem mem_found {m : Mc} {w : List Nat} : ∀ {t : Nat}, w ∈ foundS m t ↔ w.length < t ∧ m.Acc w
 | 0 => by simp [foundS]
 | t + 1 => by
   show w ∈ foundS m t ++ endsAt m (sts m t) ↔ _
   rw [List.mem_append, mem_found]
   unfold endsAt
   rw [List.mem_map]
   constructor
   · rintro (⟨h1, h2⟩ | ⟨s, hs, rfl⟩)
     · exact ⟨by omega, h2⟩
     · obtain ⟨h1, h2⟩ := List.mem_filter.mp hs
       obtain ⟨l, run⟩ := mem_sts.mp h1
       exact ⟨by omega, s.2, by simpa using h2, run⟩
   · rintro ⟨h1, e, he, run⟩
     by_cases z : w.length < t
     · exact .inl ⟨z, e, he, run⟩
     · exact .inr ⟨(w, e), List.mem_filter.mpr ⟨mem_sts.mpr ⟨by show w.length = t; omega, run⟩, by simpa using he⟩, rfl⟩
theorem len_foldA {s : Sw} : ∀ {l : List Ar} {acc : List Sw}, (l.foldl (mcA s) acc).length ≤ acc.length + l.length
 | [], acc => by simp
 | x :: l, acc => by
   have := len_foldA (s := s) (l := l) (acc := mcA s acc x)
   have h : (mcA s acc x).length ≤ acc.length + 1 := by
     unfold mcA
     split
     · exact len_addS
     · omega
   rw [List.foldl_cons, List.length_cons]; omega
theorem len_foldS {m : Mc} : ∀ {l acc : List Sw}, (l.foldl (mcS m) acc).length ≤ acc.length + l.length * m.a.length
 | [], acc => by simp
 | s :: l, acc => by
   have := len_foldS (m := m) (l := l) (acc := mcS m acc s)
   have h : (mcS m acc s).length ≤ acc.length + m.a.length := len_foldA
   rw [List.foldl_cons, List.length_cons, Nat.add_mul]; omega
theorem len_sts {m : Mc} (h : m.a.length ≤ 6) : ∀ t, (sts m t).length ≤ 6 ^ t
 | 0 => by simp [sts]
 | t + 1 => by
   have h1 := len_foldS (m := m) (l := sts m t) (acc := [])
   have h2 := len_sts h t
   have h3 := Nat.mul_le_mul h2 h
   show (nextS m (sts m t)).length ≤ _
   unfold nextS
   rw [Nat.pow_succ]
   simp at h1
   omega
theorem in_ends {l : List Nat} {r : Nat} (hr : r < 1000) (h : ∀ x ∈ l, x < 1000) (hl : l.length ≤ 4) : inF false (.int (r : Nat)) (.tuple (l.map fun r => .int (r : Nat))) = some (.o (.bool (l.contains r))) := by
 rw [in_niceT (nice_nat hr) (nice_map (fun x hx => nice_nat (h x hx)) hl) (q := l.contains r)]
 · rfl
 · rw [List.contains_iff_mem, List.mem_map]
   constructor
   · intro z; exact ⟨r, z, rfl⟩
   · rintro ⟨x, hx, e⟩
     injection e with e
     have : x = r := by omega
     rw [← this]; exact hx
theorem comp_flt {α : Type} {enc e : α → PyData} {keep : α → Bool} {h : Nat} {g : DG} {ft : DT} {fe : DE} {ρ : DSt} {Q : List PyData → Prop} : ∀ {as : List α} {acc : List PyData}
   (step : ∀ a ∈ as, ∀ (Y : PyData → Prop) (Z : Prop), (keep a = true → Y (e a)) → (keep a = false → Z) → g (enc a) (List.replicate h none ++ ρ) fun ρ2 => ft ρ2 fun b => if b = true then fe ρ2 fun r => Y r.d else Z)
   (hz : acc.length + as.length ≤ sizeLine) (q : Q (acc ++ (as.filter keep).map e)), compGo h g ft fe ρ Q (as.map enc) acc
 | [], acc, _, _, q => by show Q acc; simpa using q
 | a :: as, acc, step, hz, q => by
   rw [List.length_cons] at hz
   refine step a (by simp) (fun d => acc.length < sizeLine ∧ compGo h g ft fe ρ Q (as.map enc) (acc ++ [d])) (compGo h g ft fe ρ Q (as.map enc) acc) (fun k => ⟨by omega, ?_⟩) fun k => ?_
   · refine comp_flt (fun b hb => step b (by simp [hb])) (by simp; omega) ?_
     rw [List.filter_cons_of_pos k] at q
     simpa using q
   · refine comp_flt (fun b hb => step b (by simp [hb])) (by omega) ?_
     rw [List.filter_cons_of_neg (by rw [k]; decide)] at q
     exact q
theorem take_at {β : Type} {l : List β} {i : Nat} {x : β} (h : l[i]? = some x) : l.take (i + 1) = l.take i ++ [x] := by rw [List.take_add_one, h]; rfl
theorem sts_room {m : Mc} (ok : m.Ok) {t : Nat} {s : Sw} (h : s ∈ sts m t) : s.2 < m.n := by
 obtain ⟨_, run⟩ := mem_sts.mp h
 have go : ∀ (w : List Nat) (r r' : Nat), r < m.n → m.Run r w r' → r' < m.n := by
   intro w
   induction w with
   | nil => intro r r' hr e; have e : r = r' := e; omega
   | cons c w ih => intro r r' hr ⟨q, hq, z⟩; exact ih q r' (ok.a _ hq).2 z
 exact go _ _ _ ok.b run
theorem len_found {m : Mc} (h : m.a.length ≤ 6) : ∀ t, (foundS m t).length * 5 + 1 ≤ 6 ^ t
 | 0 => by simp [foundS]
 | t + 1 => by
   have h1 := len_found h t
   have h2 := len_sts h t
   have h3 : (endsAt m (sts m t)).length ≤ (sts m t).length := by unfold endsAt; rw [List.length_map]; exact List.length_filter_le _ _
   show (foundS m t ++ endsAt m (sts m t)).length * 5 + 1 ≤ _
   rw [List.length_append, Nat.pow_succ]
   omega
theorem eqN (a b : Nat) : eqF false (.int (a : Nat)) (.int (b : Nat)) = some (.o (.bool (decide (a = b)))) := by
 rw [eqF_int, if_neg Bool.false_ne_true, show decide ((a : Int) = (b : Int)) = decide (a = b) from decide_eq_decide.mpr (by omega)]
theorem eqR (a b : Nat) : (if false = true then !(R.o (PyData.int (a : Nat))).d.eqv (R.o (PyData.int (b : Nat))).d else (R.o (PyData.int (a : Nat))).d.eqv (R.o (PyData.int (b : Nat))).d) = decide (a = b) := by
 have z : some (R.o (PyData.bool (if false = true then !(R.o (PyData.int (a : Nat))).d.eqv (R.o (PyData.int (b : Nat))).d else (R.o (PyData.int (a : Nat))).d.eqv (R.o (PyData.int (b : Nat))).d))) = _ := eqN a b
 injection z with z
 injection z with z
 injection z
def Mc.nm (m : Mc) (r : Nat) : Nat := if r = m.b then 0 else if r = 0 then m.b else r
def Mc.ruA (m : Mc) (x : Ar) : PyData := .tuple [.int (m.nm x.p : Nat), .tuple [.str (tx [x.c]), .int (m.nm x.q : Nat)]]
def Mc.ruE (m : Mc) (r : Nat) : PyData := .tuple [.int (m.nm r : Nat), .tuple []]
def Mc.gram (m : Mc) : PyData := .tuple [.int (m.n : Nat), .tuple (m.a.map m.ruA ++ m.e.map m.ruE)]
theorem Mc.nm_lt {m : Mc} (ok : m.Ok) {r : Nat} (h : r < m.n) : m.nm r < m.n := by
 unfold Mc.nm
 have := ok.b
 have := ok.n1
 split
 · omega
 · split <;> omega
theorem Mc.nm_inj {m : Mc} {r s : Nat} (h : m.nm r = m.nm s) : r = s := by
 unfold Mc.nm at h
 split at h <;> split at h <;> (try split at h) <;> (try split at h) <;> omega
theorem Mc.nm_b {m : Mc} : m.nm m.b = 0 := if_pos rfl
def nameLF : List PyData → (R → Prop) → Prop := fun ds Q => ∃ (m : Mc) (r : Nat), ds = [m.enc, .int (r : Nat)] ∧ Q (.o (.int (m.nm r : Nat)))
def gramLF : List PyData → (R → Prop) → Prop := fun ds Q => ∃ m : Mc, ds = [m.enc] ∧ m.Ok ∧ Q (.o m.gram)
def wholeLF : List PyData → (R → Prop) → Prop := fun ds Q => ∃ d, ds = [d] ∧ ((∃ i : Int, d = .int i ∧ Q (.o (.bool true))) ∨ ∃ x : Str, d = .str x ∧ Q (.o (.bool false)))
def machF : List PyData → (R → Prop) → Prop := fun ds Q => ds = [] ∧ ∀ m : Mc, m.Ok → Q (.o m.enc)
def isGraLF : List PyData → (R → Prop) → Prop := fun ds Q => ∃ m : Mc, ds = [m.gram] ∧ m.Ok ∧ Q (.o (.bool true))
def wordsGF : List PyData → (R → Prop) → Prop := fun ds Q => ∃ m : Mc, ds = [m.gram, .int 4] ∧ m.Ok ∧ ∀ ws : List (List (List Nat)), ws.length = m.n → (∀ r, r < m.n → ∀ l, ws[m.nm r]? = some l → l.Nodup ∧ ∀ w, w ∈ l ↔ w.length ≤ 4 ∧ ∃ e ∈ m.e, m.Run r w e) → Q (.o (.list (ws.map fun l => .list (l.map fun w => .str (tx w)))))
def machLF : List PyData → (R → Prop) → Prop := fun ds Q => ∃ m : Mc, ds = [m.enc, .int 4] ∧ m.Ok ∧ ∀ zs : List Str, zs.Nodup → (∀ z, z ∈ zs ↔ ∃ w, z = tx w ∧ w.length ≤ 4 ∧ m.Acc w) → sortedS zs = true → Q (.n (zs.map .str))
end L3
namespace L3
open PySem PySem.Spec
open PyProof.Rows hiding St
open L2
abbrev Ws := List (List (List Nat))
def Ws.at_ (ws : Ws) (n : Nat) : List (List Nat) := ws.getD n []
def addW (n : Nat) (st : Ws × Bool) (w : List Nat) : Ws × Bool := if (st.1.at_ n).contains w then st else (st.1.set n (st.1.at_ n ++ [w]), true)
abbrev Rl := Ar ⊕ Nat
def Mc.rules (m : Mc) : List Rl := m.a.map .inl ++ m.e.map .inr
def Mc.lhs (m : Mc) : Rl → Nat
 | .inl x => m.nm x.p
 | .inr r => m.nm r
def Mc.fnd (m : Mc) (ws : Ws) : Rl → List (List Nat)
 | .inl x => ((ws.at_ (m.nm x.q)).filter fun w => decide (w.length ≤ 3)).map (x.c :: ·)
 | .inr _ => [[]]
def Mc.rl (m : Mc) (st : Ws × Bool) (r : Rl) : Ws × Bool := (m.fnd st.1 r).foldl (addW (m.lhs r)) st
structure Mc.Snd (m : Mc) (ws : Ws) : Prop where
 len : ws.length = m.n
 nd : ∀ n, (ws.at_ n).Nodup
 snd : ∀ r, r < m.n → ∀ w ∈ ws.at_ (m.nm r), w.length ≤ 4 ∧ ∃ e ∈ m.e, m.Run r w e
theorem at_set {ws : Ws} {n k : Nat} {l : List (List Nat)} (h : n < ws.length) : Ws.at_ (ws.set n l) k = if k = n then l else ws.at_ k := by
 unfold Ws.at_
 by_cases e : k = n
 · subst e; rw [if_pos rfl, List.getD_eq_getElem?_getD, List.getElem?_set_self h]; rfl
 · rw [if_neg e, List.getD_eq_getElem?_getD, List.getElem?_set_ne (Ne.symm e), List.getD_eq_getElem?_getD]
theorem Mc.Snd.add {m : Mc} {st : Ws × Bool} (s : m.Snd st.1) {r : Nat} (hr : r < m.n) (ok : m.Ok) {w : List Nat} (hw : w.length ≤ 4 ∧ ∃ e ∈ m.e, m.Run r w e) : m.Snd (addW (m.nm r) st w).1 := by
 unfold addW
 by_cases c : (st.1.at_ (m.nm r)).contains w = true
 · rw [if_pos c]; exact s
 · rw [if_neg c]
   have hn : m.nm r < st.1.length := by rw [s.len]; exact m.nm_lt ok hr
   refine ⟨by rw [List.length_set]; exact s.len, fun k => ?_, fun q hq v hv => ?_⟩
   · rw [at_set hn]
     by_cases e : k = m.nm r
     · rw [if_pos e]
       refine List.nodup_append.mpr ⟨s.nd _, by simp, fun a ha b hb e => c ?_⟩
       rw [List.mem_singleton.mp hb] at e
       rw [← e]; simpa using ha
     · rw [if_neg e]; exact s.nd k
   · rw [at_set hn] at hv
     by_cases e : m.nm q = m.nm r
     · rw [if_pos e] at hv
       have := Mc.nm_inj e
       subst this
       rcases List.mem_append.mp hv with hv | hv
       · exact s.snd q hq v hv
       · rw [List.mem_singleton.mp hv]; exact hw
     · rw [if_neg e] at hv; exact s.snd q hq v hv
structure Grow (st st' : Ws × Bool) : Prop where
 sub : ∀ n w, w ∈ st.1.at_ n → w ∈ st'.1.at_ n
 same : st'.2 = false → st' = st
theorem Grow.refl (st : Ws × Bool) : Grow st st := ⟨fun _ _ h => h, fun _ => rfl⟩
theorem Grow.trans {a b c : Ws × Bool} (h : Grow a b) (h' : Grow b c) : Grow a c := ⟨fun n w x => h'.sub n w (h.sub n w x), fun e => by
 have e1 := h'.same e
 rw [e1] at e ⊢
 exact h.same e⟩
theorem addW_grow {n : Nat} {st : Ws × Bool} {w : List Nat} (hn : n < st.1.length) : Grow st (addW n st w) ∧ w ∈ (addW n st w).1.at_ n := by
 unfold addW
 by_cases c : (st.1.at_ n).contains w = true
 · rw [if_pos c]; exact ⟨.refl _, by simpa using c⟩
 · rw [if_neg c]
   refine ⟨⟨fun k v hv => ?_, fun e => by cases e⟩, ?_⟩
   · rw [at_set hn]
     by_cases e : k = n
     · rw [if_pos e]; rw [e] at hv; exact List.mem_append_left _ hv
     · rw [if_neg e]; exact hv
   · rw [at_set hn, if_pos rfl]; simp
theorem fold_add {m : Mc} (ok : m.Ok) {r : Nat} (hr : r < m.n) : ∀ {l : List (List Nat)} {st : Ws × Bool}, m.Snd st.1 → (∀ w ∈ l, w.length ≤ 4 ∧ ∃ e ∈ m.e, m.Run r w e) → m.Snd (l.foldl (addW (m.nm r)) st).1 ∧ Grow st (l.foldl (addW (m.nm r)) st) ∧ ∀ w ∈ l, w ∈ (l.foldl (addW (m.nm r)) st).1.at_ (m.nm r)
 | [], st, s, _ => ⟨s, .refl _, fun _ h => nomatch h⟩
 | w :: l, st, s, h => by
   have hn : m.nm r < st.1.length := by rw [s.len]; exact m.nm_lt ok hr
   obtain ⟨g1, g2⟩ := addW_grow (w := w) hn
   obtain ⟨z1, z2, z3⟩ := fold_add (l := l) ok hr (s.add hr ok (h w (by simp))) fun v hv => h v (List.mem_cons_of_mem _ hv)
   refine ⟨z1, g1.trans z2, fun v hv => ?_⟩
   rcases List.mem_cons.mp hv with rfl | hv
   · exact z2.sub _ _ g2
   · exact z3 v hv
def Mc.rm (m : Mc) : Rl → Nat
 | .inl x => x.p
 | .inr r => r
theorem lhs_rm {m : Mc} (r : Rl) : m.lhs r = m.nm (m.rm r) := by cases r <;> rfl
theorem rule_ok {m : Mc} (ok : m.Ok) {r : Rl} (h : r ∈ m.rules) : m.rm r < m.n := by
 unfold Mc.rules at h
 rcases List.mem_append.mp h with h | h
 · obtain ⟨x, hx, rfl⟩ := List.mem_map.mp h; exact (ok.a x hx).1
 · obtain ⟨x, hx, rfl⟩ := List.mem_map.mp h; exact ok.e x hx
theorem fnd_ok {m : Mc} (ok : m.Ok) {ws : Ws} (s : m.Snd ws) {r : Rl} (h : r ∈ m.rules) : ∀ w ∈ m.fnd ws r, w.length ≤ 4 ∧ ∃ e ∈ m.e, m.Run (m.rm r) w e := by
 unfold Mc.rules at h
 rcases List.mem_append.mp h with h | h
 · obtain ⟨x, hx, rfl⟩ := List.mem_map.mp h
   intro w hw
   obtain ⟨v, hv, rfl⟩ := List.mem_map.mp hw
   obtain ⟨h1, h2⟩ := List.mem_filter.mp hv
   obtain ⟨l, e, he, run⟩ := s.snd x.q (ok.a x hx).2 v h1
   exact ⟨by have := of_decide_eq_true h2; simp only [List.length_cons]; omega, e, he, x.q, hx, run⟩
 · obtain ⟨x, hx, rfl⟩ := List.mem_map.mp h
   intro w hw
   rw [List.mem_singleton.mp hw]
   exact ⟨by simp, x, hx, rfl⟩
theorem rl_ok {m : Mc} (ok : m.Ok) {st : Ws × Bool} (s : m.Snd st.1) {r : Rl} (h : r ∈ m.rules) : m.Snd (m.rl st r).1 ∧ Grow st (m.rl st r) ∧ ∀ w ∈ m.fnd st.1 r, w ∈ (m.rl st r).1.at_ (m.lhs r) := by
 unfold Mc.rl
 rw [lhs_rm]
 exact fold_add ok (rule_ok ok h) s (fnd_ok ok s h)
theorem turn_ok {m : Mc} (ok : m.Ok) : ∀ {l : List Rl} {st : Ws × Bool}, (∀ r ∈ l, r ∈ m.rules) → m.Snd st.1 → m.Snd (l.foldl m.rl st).1 ∧ Grow st (l.foldl m.rl st) ∧ ((l.foldl m.rl st).2 = false → ∀ r ∈ l, ∀ w ∈ m.fnd st.1 r, w ∈ st.1.at_ (m.lhs r))
 | [], st, _, s => ⟨s, .refl _, fun _ _ h => nomatch h⟩
 | r :: l, st, h, s => by
   obtain ⟨s1, g1, f1⟩ := rl_ok ok s (h r (by simp))
   obtain ⟨s2, g2, f2⟩ := turn_ok ok (l := l) (fun x hx => h x (by simp [hx])) s1
   refine ⟨s2, g1.trans g2, fun e x hx w hw => ?_⟩
   have e' : (l.foldl m.rl (m.rl st r)).2 = false := e
   have e2 := g2.same e'
   have e3 : (m.rl st r).2 = false := by rw [e2] at e'; exact e'
   have e4 := g1.same e3
   rcases List.mem_cons.mp hx with rfl | hx
   · have := f1 w hw; rw [e4] at this; exact this
   · have := f2 e' x hx w (by rw [e4]; exact hw); rw [e4] at this; exact this
theorem full {m : Mc} {ws : Ws} (h : ∀ r ∈ m.rules, ∀ w ∈ m.fnd ws r, w ∈ ws.at_ (m.lhs r)) : ∀ (w : List Nat) (r e : Nat), e ∈ m.e → m.Run r w e → w.length ≤ 4 → w ∈ ws.at_ (m.nm r)
 | [], r, e, he, run, _ => by
   have run : r = e := run
   subst run
   exact h (.inr r) (List.mem_append_right _ (List.mem_map.mpr ⟨r, he, rfl⟩)) [] (by simp [Mc.fnd])
 | c :: w, r, e, he, ⟨q, hq, run⟩, l => by
   simp only [List.length_cons] at l
   have := full h w q e he run (by omega)
   exact h (.inl ⟨r, c, q⟩) (List.mem_append_left _ (List.mem_map.mpr ⟨_, hq, rfl⟩)) (c :: w) (List.mem_map.mpr ⟨w, List.mem_filter.mpr ⟨this, decide_eq_true (by omega)⟩, rfl⟩)
end L3
namespace L3
open PySem PySem.Spec
open PyProof.Rows hiding St
open L2
def tot (ws : Ws) : Nat := (ws.map List.length).sum
theorem tot_set : ∀ {ws : Ws} {n : Nat} {w : List Nat}, n < ws.length → tot (ws.set n (ws.at_ n ++ [w])) = tot ws + 1
 | l :: ws, 0, w, _ => by
   show ((l ++ [w]) :: ws |>.map List.length).sum = ((l :: ws).map List.length).sum + 1
   simp only [List.map_cons, List.sum_cons, List.length_append, List.length_singleton]; omega
 | l :: ws, n + 1, w, h => by
   have := tot_set (ws := ws) (n := n) (w := w) (by simpa using h)
   have e : Ws.at_ (l :: ws) (n + 1) = Ws.at_ ws n := rfl
   rw [e]
   show ((l :: List.set ws n (Ws.at_ ws n ++ [w])).map List.length).sum = ((l :: ws).map List.length).sum + 1
   unfold tot at this
   simp only [List.map_cons, List.sum_cons]
   omega
structure Up1 (st st' : Ws × Bool) : Prop where
 le : tot st.1 ≤ tot st'.1
 lt : st'.2 = true → st.2 = true ∨ tot st.1 < tot st'.1
 ln : st'.1.length = st.1.length
theorem Up1.refl (st : Ws × Bool) : Up1 st st := ⟨Nat.le_refl _, fun h => .inl h, rfl⟩
theorem Up1.trans {a b c : Ws × Bool} (h : Up1 a b) (h' : Up1 b c) : Up1 a c := ⟨Nat.le_trans h.le h'.le, fun e => by
 rcases h'.lt e with z | z
 · rcases h.lt z with y | y
   · exact .inl y
   · exact .inr (Nat.lt_of_lt_of_le y h'.le)
 · exact .inr (Nat.lt_of_le_of_lt h.le z), h'.ln.trans h.ln⟩
theorem addW_up {n : Nat} {st : Ws × Bool} {w : List Nat} (hn : n < st.1.length) : Up1 st (addW n st w) := by
 unfold addW
 by_cases c : (st.1.at_ n).contains w = true
 · rw [if_pos c]; exact .refl _
 · rw [if_neg c]
   have := tot_set (w := w) hn
   exact ⟨by show tot st.1 ≤ tot (st.1.set n (st.1.at_ n ++ [w])); omega, fun _ => .inr (by show tot st.1 < tot (st.1.set n (st.1.at_ n ++ [w])); omega), by show (st.1.set n _).length = _; rw [List.length_set]⟩
theorem foldW_up {n : Nat} : ∀ {l : List (List Nat)} {st : Ws × Bool}, n < st.1.length → Up1 st (l.foldl (addW n) st)
 | [], st, _ => .refl _
 | w :: l, st, h => (addW_up h).trans (foldW_up (l := l) (by rw [(addW_up (w := w) h).ln]; exact h))
theorem turn_up {m : Mc} (ok : m.Ok) : ∀ {l : List Rl} {st : Ws × Bool}, (∀ r ∈ l, r ∈ m.rules) → st.1.length = m.n → Up1 st (l.foldl m.rl st)
 | [], st, _, _ => .refl _
 | r :: l, st, h, e => by
   have h1 : Up1 st (m.rl st r) := foldW_up (by rw [e, lhs_rm]; exact m.nm_lt ok (rule_ok ok (h r (by simp))))
   exact h1.trans (turn_up ok (l := l) (fun x hx => h x (List.mem_cons_of_mem _ hx)) (h1.ln.trans e))
def allW (ls : List Nat) : Nat → List (List Nat)
 | 0 => [[]]
 | k + 1 => [] :: ls.flatMap fun c => (allW ls k).map (c :: ·)
theorem mem_allW {ls : List Nat} : ∀ {k : Nat} {w : List Nat}, w.length ≤ k → (∀ c ∈ w, c ∈ ls) → w ∈ allW ls k
 | 0, [], _, _ => by simp [allW]
 | 0, c :: w, h, _ => by simp at h
 | k + 1, [], _, _ => by simp [allW]
 | k + 1, c :: w, h, hc => by
   refine List.mem_cons_of_mem _ (List.mem_flatMap.mpr ⟨c, hc c (by simp), List.mem_map.mpr ⟨w, mem_allW (by simpa using h) fun d hd => hc d (by simp [hd]), rfl⟩⟩)
theorem len_allW {ls : List Nat} (h : ls.length ≤ 3) : ∀ k, (allW ls k).length ≤ (List.range (k + 1)).foldl (fun a _ => 3 * a + 1) 0
 | 0 => by simp [allW]
 | k + 1 => by
   have ih := len_allW h k
   rw [List.range_succ, List.foldl_append]
   show ([] :: ls.flatMap fun c => (allW ls k).map (c :: ·)).length ≤ 3 * _ + 1
   have e : (ls.flatMap fun c => (allW ls k).map (c :: ·)).length = ls.length * (allW ls k).length := by
     generalize allW ls k = A
     clear ih h
     induction ls with
     | nil => simp
     | cons c ls ih2 =>
       rw [List.flatMap_cons, List.length_append, List.length_map, ih2, List.length_cons, Nat.add_mul]; omega
   rw [List.length_cons, e]
   have := Nat.mul_le_mul h ih
   omega
theorem run_ls {m : Mc} {ls : List Nat} (h : ∀ x ∈ m.a, x.c ∈ ls) : ∀ {w : List Nat} {r e : Nat}, m.Run r w e → ∀ c ∈ w, c ∈ ls
 | [], _, _, _, _, hc => nomatch hc
 | d :: w, r, e, ⟨q, hq, run⟩, c, hc => by
   rcases List.mem_cons.mp hc with rfl | hc
   · exact h _ hq
   · exact run_ls h run c hc
theorem nd_lenW : ∀ {zs ys : List (List Nat)}, zs.Nodup → (∀ z ∈ zs, z ∈ ys) → zs.length ≤ ys.length
 | [], ys, _, _ => Nat.zero_le _
 | z :: zs, ys, nd, h => by
   have n := List.nodup_cons.mp nd
   have hz := h z (by simp)
   have := nd_lenW (zs := zs) (ys := ys.erase z) n.2 fun x hx => (List.mem_erase_of_ne (show x ≠ z from fun e => n.1 (by rw [← e]; exact hx))).mpr (h x (by simp [hx]))
   rw [List.length_erase_of_mem hz] at this
   have := List.length_pos_of_mem hz
   rw [List.length_cons]; omega
theorem Mc.Snd.few {m : Mc} (ok : m.Ok) {ws : Ws} (s : m.Snd ws) {r : Nat} (hr : r < m.n) : (ws.at_ (m.nm r)).length ≤ 121 := by
 obtain ⟨ls, l3, _, hl⟩ := ok.ls
 have h1 := nd_lenW (s.nd (m.nm r)) (ys := allW ls 4) fun w hw => by
   obtain ⟨l, e, _, run⟩ := s.snd r hr w hw
   exact mem_allW l (run_ls hl run)
 have h2 := len_allW l3 4
 have h3 : (List.range (4 + 1)).foldl (fun a _ => 3 * a + 1) 0 = 121 := by decide
 omega
theorem nm_nm {m : Mc} (r : Nat) : m.nm (m.nm r) = r := by
 unfold Mc.nm
 by_cases h1 : r = m.b
 · rw [if_pos h1]
   by_cases h2 : 0 = m.b
   · rw [if_pos h2]; omega
   · rw [if_neg h2, if_pos rfl]; omega
 · rw [if_neg h1]
   by_cases h2 : r = 0
   · rw [if_pos h2, if_pos rfl]; omega
   · rw [if_neg h2, if_neg h1, if_neg h2]
theorem tot_le : ∀ {ws : Ws} {k : Nat}, (∀ n, n < ws.length → (ws.at_ n).length ≤ k) → tot ws ≤ k * ws.length
 | [], k, _ => by simp [tot]
 | l :: ws, k, h => by
   have h1 := h 0 (by simp)
   have h1 : l.length ≤ k := h1
   have h2 := tot_le (ws := ws) (k := k) fun n hn => h (n + 1) (by simpa using hn)
   unfold tot at h2 ⊢
   rw [List.map_cons, List.sum_cons, List.length_cons, Nat.mul_add]; omega
theorem Mc.Snd.tot {m : Mc} (ok : m.Ok) {ws : Ws} (s : m.Snd ws) : L3.tot ws ≤ 484 := by
 have h := tot_le (ws := ws) (k := 121) fun n hn => by
   have := s.few ok (r := m.nm n) (m.nm_lt ok (by rw [← s.len]; exact hn))
   rw [nm_nm] at this
   exact this
 have := ok.n4
 rw [s.len] at h
 omega
def wD1 (l : List (List Nat)) : PyData := .list (l.map fun w => .str (tx w))
def wsD (ws : Ws) : PyData := .list (ws.map wD1)
theorem snd0 {m : Mc} : m.Snd (List.replicate m.n []) := by
 have z : ∀ n, Ws.at_ (List.replicate m.n []) n = [] := fun n => by
   unfold Ws.at_
   rw [List.getD_eq_getElem?_getD, List.getElem?_replicate]
   split <;> rfl
 exact ⟨List.length_replicate, fun n => by rw [z]; exact .nil, fun r _ w hw => by rw [z] at hw; cases hw⟩
def Mc.ru (m : Mc) : Rl → PyData
 | .inl x => m.ruA x
 | .inr r => m.ruE r
theorem gram_ru (m : Mc) : m.a.map m.ruA ++ m.e.map m.ruE = m.rules.map m.ru := by
 unfold Mc.rules
 rw [List.map_append, List.map_map, List.map_map]
 rfl
theorem run_low {m : Mc} (ok : m.Ok) {w : List Nat} {r e : Nat} (h : m.Run r w e) : ∀ c ∈ w, c < 1000 := by
 obtain ⟨ls, _, lo, hl⟩ := ok.ls
 exact fun c hc => lo c (run_ls hl h c hc)
theorem at_get {ws : Ws} {n : Nat} (h : n < ws.length) : ws[n]? = some (ws.at_ n) := by
 unfold Ws.at_
 rw [List.getD_eq_getElem?_getD, List.getElem?_eq_getElem h]
 rfl
theorem idx_ws {ws : Ws} {n : Nat} (h : n < ws.length) : idxF (wsD ws) (.int (n : Nat)) = some (.o (wD1 (ws.at_ n))) := idx_lst (by rw [List.getElem?_map, at_get h]; rfl)
theorem in_wD {neg : Bool} {w : List Nat} {l : List (List Nat)} (hw : w.length ≤ 4 ∧ ∀ c ∈ w, c < 1000) (hl : ∀ v ∈ l, v.length ≤ 4 ∧ ∀ c ∈ v, c < 1000) (hz : l.length ≤ 1000) : inF neg (.str (tx w)) (wD1 l) = some (.o (.bool (if neg then !l.contains w else l.contains w))) := by
 refine in_nice (nice_txt (b := 4) hw.2 hw.1) (nice_map (f := fun w => PyData.str (tx w)) (n := 0) (b := 4) (m := 1000) (fun v hv => nice_txt (hl v hv).2 (hl v hv).1) hz) (by decide) (q := l.contains w) ?_
 rw [List.contains_iff_mem, List.mem_map]
 constructor
 · intro h; exact ⟨w, h, rfl⟩
 · rintro ⟨v, hv, e⟩
   injection e with e
   have := congrArg (fun x : Str => x.cps.toList) e
   have e2 : v = w := by simpa [tx] using this
   rw [← e2]; exact hv
theorem dset_ws {ws : Ws} {n : Nat} {w : List Nat} (h : n < ws.length) : dset (wsD ws) [n] (.list ((ws.at_ n).map (fun w => PyData.str (tx w)) ++ [.str (tx w)])) = wsD (ws.set n (ws.at_ n ++ [w])) := by
 unfold wsD dset
 rw [List.getElem?_map, at_get h]
 show PyData.list ((ws.map wD1).set n _) = _
 rw [List.map_set]
 unfold wD1 dset
 rw [List.map_append]
 rfl
end L3
namespace L3
open PySem PySem.Spec
open PyProof.Rows hiding St
open L2
def lngW (c : Nat) (l : List (List Nat)) : List (List Nat) := (l.filter fun w => decide (w.length ≤ 3)).map (c :: ·)
theorem lng_at {c k : Nat} {l : List (List Nat)} {v : List Nat} (h : l[k]? = some v) : lngW c (l.take (k + 1)) = if v.length ≤ 3 then lngW c (l.take k) ++ [c :: v] else lngW c (l.take k) := by
 unfold lngW
 rw [take_at h, List.filter_append, List.map_append]
 by_cases z : v.length ≤ 3
 · rw [if_pos z, List.filter_cons_of_pos (by simpa using z)]; rfl
 · rw [if_neg z, List.filter_cons_of_neg (by simpa using z)]; simp
theorem lng_new {c k : Nat} {l : List (List Nat)} {v : List Nat} (nd : l.Nodup) (h : l[k]? = some v) : (lngW c (l.take k)).contains (c :: v) = false := by
 cases z : (lngW c (l.take k)).contains (c :: v) with
 | false => rfl
 | true =>
   have z := List.contains_iff_mem.mp z
   obtain ⟨u, hu, e⟩ := List.mem_map.mp z
   injection e with _ e
   subst e
   have hu := (List.mem_filter.mp hu).1
   have n2 : (l.take (k + 1)).Nodup := nd.sublist (List.take_sublist _ _)
   rw [take_at h] at n2
   exact absurd rfl ((List.nodup_append.mp n2).2.2 _ hu _ (by simp))
theorem lng_mem {c : Nat} {l : List (List Nat)} {w : List Nat} (h : w ∈ lngW c l) : ∃ v ∈ l, w = c :: v ∧ w.length ≤ 4 := by
 obtain ⟨v, hv, rfl⟩ := List.mem_map.mp h
 obtain ⟨h1, h2⟩ := List.mem_filter.mp hv
 exact ⟨v, h1, rfl, by have := of_decide_eq_true h2; simp only [List.length_cons]; omega⟩
theorem lng_len {c : Nat} {l : List (List Nat)} : (lngW c l).length ≤ l.length := by
 unfold lngW
 rw [List.length_map]
 exact List.length_filter_le _ _
theorem flat_mcE (m : Mc) : flat m.enc = true := by
 show (true && (true && (flats (m.e.map fun r => .int (r : Nat)) && (flats (m.a.map Ar.enc) && true)))) = true
 rw [flats_map (fun _ => rfl), flats_map (fun _ => rfl)]
 rfl
theorem flat_mcG (m : Mc) : flat m.gram = true := by
 unfold Mc.gram
 rw [gram_ru]
 show (true && (flats (m.rules.map m.ru) && true)) = true
 rw [flats_map (fun a => by cases a <;> rfl)]
 rfl
theorem nice_mcG {m : Mc} (ok : m.Ok) : Nice 4 200 m.gram := by
 have n4 := ok.n4
 obtain ⟨ls, _, lo, hl⟩ := ok.ls
 have ln : m.rules.length ≤ 10 := by
   have := ok.el
   have := ok.al
   unfold Mc.rules
   rw [List.length_append, List.length_map, List.length_map]
   omega
 have hr : ∀ r ∈ m.rules, Nice 2 10 (m.ru r) := fun r hr => by
   have hm := m.nm_lt ok (rule_ok ok hr)
   rcases List.mem_append.mp hr with z | z
   · obtain ⟨y, hy, rfl⟩ := List.mem_map.mp z
     have hq := m.nm_lt ok (ok.a y hy).2
     exact (nice_cons ((nice_nat (by rw [show m.rm (.inl y) = y.p from rfl] at hm; omega)).more (n' := 1) (by omega) (Nat.le_refl _)) (nice_cons ((nice_cons (nice_txt (b := 1) (fun c hc => by rw [List.mem_singleton.mp hc]; exact lo _ (hl y hy)) (by simp)) (nice_cons (nice_nat (by omega)) nice_nil))) (nice_nilN 1))).more (Nat.le_refl _) (by omega)
   · obtain ⟨y, hy, rfl⟩ := List.mem_map.mp z
     exact (nice_cons ((nice_nat (by rw [show m.rm (.inr y) = y from rfl] at hm; omega)).more (n' := 1) (by omega) (Nat.le_refl _)) (nice_cons nice_nil (nice_nilN 1))).more (Nat.le_refl _) (by omega)
 unfold Mc.gram
 rw [gram_ru]
 exact (nice_cons ((nice_nat (n := m.n) (by omega)).more (n' := 3) (by omega) (Nat.le_refl _)) (nice_cons (nice_map hr ln) (nice_nilN 3))).more (Nat.le_refl _) (by omega)
theorem eq_mcG {m : Mc} (ok : m.Ok) : eqF true m.gram m.gram = some (.o (.bool false)) := eq_nice (q := true) (nice_mcG ok) (nice_mcG ok) (by decide) ⟨fun _ => rfl, fun _ => rfl⟩
theorem wds_few {m : Mc} (ok : m.Ok) {r : Nat} {l : List (List Nat)} (nd : l.Nodup) (h : ∀ w ∈ l, w.length ≤ 4 ∧ ∃ e ∈ m.e, m.Run r w e) : l.length ≤ 121 := by
 obtain ⟨ls, l3, _, hl⟩ := ok.ls
 have h1 := nd_lenW nd (ys := allW ls 4) fun w hw => by
   obtain ⟨l, e, _, run⟩ := h w hw
   exact mem_allW l (run_ls hl run)
 have h2 := len_allW l3 4
 have h3 : (List.range (4 + 1)).foldl (fun a _ => 3 * a + 1) 0 = 121 := by decide
 omega
theorem eq_wds {m : Mc} (ok : m.Ok) {zs : List Str} (h : ∀ z ∈ zs, ∃ w, z = tx w ∧ w.length ≤ 4 ∧ m.Acc w) : eqF true (.list (zs.map .str)) (.list (zs.map .str)) = some (.o (.bool false)) := by
 have n : Nice 1 (zs.length * (4 + 1)) (.tuple (zs.map .str)) := nice_map (n := 0) (b := 4) (fun z hz => by
   obtain ⟨w, rfl, l, e, _, run⟩ := h z hz
   exact nice_txt (run_low ok run) l) (Nat.le_refl _)
 exact eq_list (q := true) n n (by decide) ⟨fun _ => rfl, fun _ => rfl⟩
theorem same_words {m : Mc} {l : List (List Nat)} (nd : l.Nodup) (hl : ∀ w, w ∈ l ↔ w.length ≤ 4 ∧ ∃ e ∈ m.e, m.Run m.b w e) {ys zs : List Str} (p : ys.Perm (l.map tx)) (s1 : sortedS ys = true) (n : zs.Nodup) (hz : ∀ z, z ∈ zs ↔ ∃ w, z = tx w ∧ w.length ≤ 4 ∧ m.Acc w) (s2 : sortedS zs = true) : ys = zs := by
 refine sorted_uni s1 s2 (p.nodup_iff.mpr ?_) n fun k => ?_
 · refine List.Pairwise.map _ (fun a b (ne : a ≠ b) => fun e => ne (tx_inj e)) nd
 · rw [p.mem_iff, List.mem_map, hz]
   constructor
   · rintro ⟨w, hw, rfl⟩
     obtain ⟨h1, e, he, run⟩ := (hl w).mp hw
     exact ⟨w, rfl, h1, e, he, run⟩
   · rintro ⟨w, rfl, h1, e, he, run⟩
     exact ⟨w, (hl w).mpr ⟨h1, e, he, run⟩, rfl⟩
end L3
namespace L3
open PySem PySem.Spec
open PyProof.Rows hiding St
open L2
def LentT (Z : Addr → Prop) (d : PyData) : Thg := ⟨fun K F W H v => ∃ as : List Addr, as.Nodup ∧ (∀ a ∈ as, W a ∧ Z a) ∧ Ow K H v d as, fun {K F F' W W' H H' v} hF hW ts h => by
 obtain ⟨as, n, m, o⟩ := h
 exact ⟨as, n, fun a z => by obtain ⟨xs, q⟩ := o.mem z; exact ⟨(hW a _ (m a z).1 q).1, (m a z).2⟩, o.to ts fun a z xs q => (hW a _ (m a z).1 q).2⟩⟩
def flS : Option DV → Option DV
 | some (.im d) => if flat d = true then some (.im d) else none
 | some (.own ds) => if flats ds = true then some (.own ds) else none
 | some .ob => some .ob
 | _ => none
section
variable {K : PySem.W.Frag} {O : Ob} {H₀ H : Hp} {A : Nat → Addr → Prop} {σ : St} {ρ : DSt}
theorem Rep.lend {i : Nat} {d : PyData} (r : Rep K O H₀ A H σ ρ) (e : ρ[i]? = some (some (.thg (OwnT d)))) : Rep K O H₀ (fun j a => j ≠ i ∧ A j a) H σ (ρ.set i (some (.thr (LentT (A i) d)))) := by
 obtain ⟨v, hv, _, as, nd, m, o⟩ := r.at_ i _ e
 have r0 := r.setIm (i := i) (v := .non) (d := .none) .none
 refine ⟨r0.ok, r0.p, r0.p0, r0.st, r0.dis, r0.own, fun j x ej => ?_, by rw [List.length_set]; exact r.len⟩
 by_cases hj : i = j
 · subst hj
   rw [List.getElem?_set_self (List.getElem?_eq_some_iff.mp e).1] at ej
   cases ej
   exact ⟨v, hv, fun a => a ∈ as, fun a z => ⟨⟨(r.own i a (m a z)).2.2, fun j y => y.1 (r.dis j i a y.2 (m a z))⟩, let ⟨o, q, _⟩ := (r.own i a (m a z)).2.1; ⟨o, q⟩⟩, as, nd, fun a z => ⟨z, m a z⟩, o⟩
 · have q := r0.at_ j x (by rw [List.getElem?_set_ne hj] at ej ⊢; exact ej)
   rw [List.getElem?_set_ne hj] at q
   exact q
theorem Rep.back {i : Nat} {d : PyData} {Z : Addr → Prop} (r : Rep K O H₀ A H σ ρ) (e : ρ[i]? = some (some (.thr (LentT Z d)))) (hZ : ∀ a, Z a → H₀ a = Option.none) :
   ∃ as : List Addr, (∀ a ∈ as, Z a) ∧ Rep K O H₀ (fun j b => (j ≠ i ∧ A j b) ∨ (j = i ∧ b ∈ as)) H σ ((ρ.map flS).set i (some (.thg (OwnT d)))) := by
 obtain ⟨v, hv, W, hw, as, nd, m, o⟩ := r.at_ i _ e
 refine ⟨as, fun a z => (m a z).2, r.ok, r.p, r.p0, r.st, fun j k b x y => ?_, fun j b x => ?_, fun j x ej => ?_, by rw [List.length_set, List.length_map]; exact r.len⟩
 · rcases x with x | x <;> rcases y with y | y
   · exact r.dis j k b x.2 y.2
   · exact absurd x.2 ((hw b (m b y.2).1).1.2 j)
   · exact absurd y.2 ((hw b (m b x.2).1).1.2 k)
   · exact x.1.trans y.1.symm
 · rcases x with x | x
   · exact r.own j b x.2
   · obtain ⟨xs, q⟩ := o.mem x.2
     exact ⟨hZ b (m b x.2).2, ⟨_, q, .lst⟩, (hw b (m b x.2).1).1.1⟩
 · by_cases hj : i = j
   · subst hj
     rw [List.getElem?_set_self (by rw [List.length_map]; exact (List.getElem?_eq_some_iff.mp e).1)] at ej
     cases ej
     exact ⟨v, hv, trivial, as, nd, fun a z => .inr ⟨rfl, z⟩, o⟩
   · rw [List.getElem?_set_ne hj, List.getElem?_map] at ej
     obtain ⟨y, hy, ey⟩ := Option.map_eq_some_iff.mp ej
     cases y with
     | none => cases ey
     | some y =>
       obtain ⟨u, h1, h2⟩ := r.at_ j y hy
       refine ⟨u, h1, ?_⟩
       cases y with
       | im d =>
         by_cases f : flat d = true
         · unfold flS at ey; dsimp only at ey; rw [if_pos f] at ey; cases ey
           exact Is.flat (TupStay.refl H) h2 f
         · unfold flS at ey; dsimp only at ey; rw [if_neg f] at ey; cases ey
       | own es =>
         by_cases f : flats es = true
         · unfold flS at ey; dsimp only at ey; rw [if_pos f] at ey; cases ey
           obtain ⟨b, ys, eq, hb, hlb, hs⟩ := h2
           exact ⟨b, ys, eq, .inl ⟨fun z => hj z.symm, hb⟩, hlb, IsAll.flats (TupStay.refl H) hs f⟩
         · unfold flS at ey; dsimp only at ey; rw [if_neg f] at ey; cases ey
       | ob => cases ey; exact h2
       | scr n => cases ey
       | dct ks => cases ey
       | gen g ds => cases ey
       | rd g ds => cases ey
       | exc C ns ds => cases ey
       | thg T => cases ey
       | thr T => cases ey
def lendS (i : Nat) (g : DS) : DS := fun Dd ρ => ∃ d, ρ[i]? = some (some (.thg (OwnT d))) ∧ ∀ Z : Addr → Prop, g { nx := fun ρ' => ρ'[i]? = some (some (.thr (LentT Z d))) ∧ Dd.nx ((ρ'.map flS).set i (some (.thg (OwnT d)))), rt := fun _ => False } (ρ.set i (some (.thr (LentT Z d))))
theorem sd_lend {i : Nat} {t : TS} {g : DS} (h : SD K O t g) : SD K O t (lendS i g) := fun H₀ A σ H ρ D Dd r q P => by
 obtain ⟨d, e, q⟩ := q
 have f1 : Frm O A H (fun j a => j ≠ i ∧ A j a) H := .setIm (.refl _ _)
 refine h H₀ _ σ H _ D _ (r.lend e) (q (A i)) ⟨fun A' σ' H' ρ' r' f' q' => ?_, fun _ _ _ _ _ _ z => z.elim, fun _ _ _ _ _ _ z => z.elim, fun _ _ _ _ _ z => z.elim⟩
 obtain ⟨e', q'⟩ := q'
 obtain ⟨as, hz, r3⟩ := r'.back e' (fun a z => (r.own i a z).1)
 refine P.nx _ _ _ _ r3 (fun a o ea ua => ?_) q'
 obtain ⟨g1, g2⟩ := f1.trans f' a o ea ua
 refine ⟨g1, g2.1, fun j z => ?_⟩
 rcases z with z | z
 · exact g2.2 j z.2
 · exact ua.2 i (hz a z.2)
def lentJ (i : Nat) (fk : DE) : DJ := fun ρ Q => ∃ Z ds, ρ[i]? = some (some (.thr (LentT Z (.list ds)))) ∧ fk ρ fun r => ∃ (k : Nat) (es : List PyData), r.d = .int (k : Nat) ∧ ds[k]? = some (.list es) ∧ Q es
theorem srcR_lent {i : Nat} {tk : TE} {fk : DE} (hk : ED K O tk fk) : SrcR K O (iList K (tOp (rIx K) (tVar i) tk)) (lentJ i fk) := fun H₀ A σ H ρ R Qd r q kk => by
 obtain ⟨Z, ds, e, q⟩ := q
 obtain ⟨v, hv, W, hw, as, nd, m, o⟩ := r.at_ i _ e
 refine ⟨v, hv, ?_⟩
 refine hk σ H ρ _ _ r.seen q fun y H1 r1 s1 o1 ⟨k, es, er, ek, q1⟩ => ?_
 have iy := o1.is r.ok r.p
 rw [er] at iy
 cases iy
 have mm : ∀ a ∈ as, unO O A a := fun a z => (hw a (m a z).1).1
 have oo := ow_stp s1 (fun a z => (mm a z).1) o
 cases oo with
 | leaf f1 _ => exact absurd f1 flat_list
 | @list a xs ds' as' q0 r0 =>
   obtain ⟨u, cs, rest, g1, g2, g3, _⟩ := r0.at ek
   cases g2 with
   | leaf f1 _ => exact absurd f1 flat_list
   | @list b ys es' bs qb rb =>
     have mb : ∀ c ∈ b :: bs, unO O A c := fun c z => mm c (List.mem_cons_of_mem _ (g3.mem_iff.mpr (List.mem_append_left _ z)))
     have ln : k < xs.length := (List.getElem?_eq_some_iff.mp g1).1
     refine .inl ⟨a, xs, _, _, rfl, rfl, .of q0, ?_, b, rfl, ⟨ys, .of qb⟩, ?_⟩
     · unfold atI
       rw [show ixN xs.length (k : Int) = some k by unfold ixN; rw [if_pos (by omega), if_pos (by omega)]; rfl]
       exact g1
     · have hs : IsAll K (unM O) H1 ys es := rb.is fun c z => (mb c (List.mem_cons_of_mem _ z)).1
       refine kk (Itl K b) H1 es (fun c => c = b) ⟨s1, fun c hc => by subst hc; exact ⟨(mb _ (by simp)).1, _, qb⟩, fun H2 j kb _ hj => ?_, fun H2 j d kb t2 hd c => ?_⟩ (fun c hc => by subst hc; exact mb _ (by simp)) q1
       · exact ⟨ys, .of (kb b _ rfl qb), by rw [hs.length]; exact hj⟩
       · obtain ⟨w, hw', iw⟩ := item_at (O := O) hs hd t2 c
         have q2 : SqL K H2 b ys := .of (kb b _ rfl qb)
         refine ⟨⟨ys, w, q2, hw'⟩, fun x H3 ⟨e3, y⟩ => ?_⟩
         subst e3
         have := y ys q2
         rw [hw'] at this
         cases this
         exact ⟨Same.refl _, iw⟩
def ifJ (fc : DT) (f1 f2 : DJ) : DJ := fun ρ Q => fc ρ fun b => if b = true then f1 ρ Q else f2 ρ Q
theorem srcR_if {c : TT} {t1 t2 : TE} {fc : DT} {f1 f2 : DJ} (hc : TD K O c fc) (h1 : SrcR K O (iList K t1) f1) (h2 : SrcR K O (iList K t2) f2) : SrcR K O (iList K (tIf c t1 t2)) (ifJ fc f1 f2) := fun H₀ A σ H ρ R Qd r q k => by
 refine hc σ H ρ _ _ r.seen q fun b H1 s1 q1 => ?_
 have r1 := r.stp s1
 have go : ∀ (J : It) (H2 : Hp) (ds : List PyData) (B : Addr → Prop), Walk K O H1 H2 J ds B → (∀ a, B a → unO O A a) → Qd ds → R J H2 := fun J H2 ds B W u q => k J H2 ds B ⟨s1.trans W.st, W.hb, W.stop, W.item⟩ u q
 cases b with
 | true => exact h1 H₀ A σ H1 ρ R Qd r1 q1 go
 | false => exact h2 H₀ A σ H1 ρ R Qd r1 q1 go
end
section
variable {ι κ : Type} {P : Program} {w : World} {K : PySem.W.Frag} {mg : Str → Option Value} {base : Heap} {k : Nat} {X : ι → Cx} {O : κ → Ob} {st : Stmt} {g : DS} {pos px p1 : Pos} {x : Str} {c a b tg : Expr} {fb : DE} {fc : DT} {fa : DI}
theorem j_ifL (n : Nat) {f1 : DE} (C : Ctx3 P w K mg base k X) (hc : T3 K X O c fc) (ha : E3 K X O a f1) (hb : E3 K X O b fb) (hN : ∀ i, (X i).N[n]? = some x := by intro i; rfl) (hv : ∀ i, Vis (X i).env.scope x := by intro i; first | exact Or.inl rfl | exact Or.inr (Or.inl rfl) | exact Or.inr (Or.inr rfl))
   (hd : (x == ("__debug__" : Str)) = false := by decide) (hcd : (x == ("__classdict__" : Str)) = false := by decide) (hs : PlainIx b := by intro _ _; rfl) : J3 K X O tg (.IfExp c a (.Subscript (.Name x px) b p1) pos) (ifJ fc (newJ (srcL f1)) (lentJ n fb)) :=
 let ⟨tc, q, d⟩ := hc; let ⟨t1, q1, d1⟩ := ha; let ⟨t2, q2, d2⟩ := hb
 ⟨iList K (tIf tc t1 (tOp (rIx K) (tVar n) t2)), fun i => by
   have z := pe_ix (pos := p1) (ix_seq (X := X i)) (pe_var (pos := px) (hN i) (hv i) hd hcd) (q2 i) hs
   rw [C.hK] at z
   have h := pi_list (tg := tg) (pe_ifExp (pos := pos) (q i) (q1 i) z)
   rw [C.hK] at h
   exact h, fun j => srcR_if (d j) (srcR_of (src_list (d1 j))) (srcR_lent (d2 j))⟩
theorem s_lend (i : Nat) (h : S3 K X O st g) : S3 K X O st (lendS i g) := let ⟨t, p, d⟩ := h; ⟨t, p, fun j => sd_lend (d j)⟩
end
end L3
namespace L3
open PySem PySem.Spec
open PyProof.Rows hiding St
open L2
section
variable {K : PySem.W.Frag} {O : Ob}
theorem OwAll.snoc1 {H : Hp} {v : V} {d : PyData} {bs : List Addr} (o : Ow K H v d bs) : ∀ {vs : List V} {ds : List PyData} {as : List Addr}, OwAll K H vs ds as → OwAll K H (vs ++ [v]) (ds ++ [d]) (as ++ bs)
 | _, _, _, .nil => by
   have z : OwAll K H [v] [d] (bs ++ []) := .cons o .nil
   rw [List.append_nil] at z
   exact z
 | _, _, _, .cons x t => by
   rw [List.append_assoc]
   exact .cons x (OwAll.snoc1 o t)
def oNils (h : Nat) (f : DI) (g : DG) : DOw := fun ρ Q => f ρ fun _ ds => ds.length ≤ 1000 ∧ (∀ d ∈ ds, g d (List.replicate h none ++ ρ) fun _ => True) ∧ Q (.list (List.replicate ds.length (.list [])))
theorem eo_nils {h : Nat} {wi : TI} {tg : TG} {f : DI} {g : DG} (hs : SrcS K O wi f) (hg : ∀ O' : Ob, GS K O' tg g) : EOw K O (tComp h wi tg tYes (tLst tNil)) (oNils h f g) := by
 intro σ H ρ Q Qd S hq k
 have sz := sizeLine_eq
 refine hs σ H ρ _ _ S hq fun J H1 ds B fr W _ ⟨lz, gg, q⟩ D hD => ?_
 have S1 := S.stp W.st
 have nM : ¬ O.M D := new_notM S.ok S1.p hD
 refine ⟨fun i m ys H2 => m = ds.length - i ∧ i ≤ ds.length ∧ H2 D = some (.lst ys) ∧ ys.length = i ∧ Stp O H1 H2 ∧ ∃ as : List Addr, as.Nodup ∧ OwAll K H2 ys (List.replicate i (.list [])) as ∧ ∀ a ∈ as, H1 a = Option.none ∧ a ≠ D, ⟨ds.length, rfl, Nat.zero_le _, upd_same, rfl, .new S.ok hD _, [], .nil, .nil, fun _ z => nomatch z⟩, ?_⟩
 rintro i m ys H2 ⟨rfl, hi, hDy, ly, st, as, nd, ow, new⟩
 refine ⟨hDy, ?_⟩
 have kB : ∀ a o, B a → H1 a = some o → H2 a = some o := fun a o b e => st.s a o e (W.hb a b).1
 by_cases hlt : i < ds.length
 · right
   have hd : ds[i]? = some ds[i] := List.getElem?_eq_getElem hlt
   obtain ⟨hgo1, hy⟩ := W.item H2 i ds[i] kB st.t hd (.inr fun a o e n => st.s a o e n)
   refine ⟨hgo1, fun x H3 y => ?_⟩
   obtain ⟨sm, ix⟩ := hy x H3 y
   have st3 : Stp O H1 H3 := st.trans (.same S.ok sm)
   refine hg O _ H3 _ x ds[i] _ _ (seen_pad (S1.stp st3) h) (ix.weak fun a ha => ha.1) (gg _ (List.getElem_mem hlt)) fun σ2 ρ2 Sg _ => ?_
   unfold tYes
   dsimp only
   rw [if_pos rfl]
   refine ⟨Nat.zero_le _, fun p hp => ?_⟩
   have hD3 : H3 D = some (.lst ys) := sm D _ hDy
   have pD : D ≠ p := fun z => by rw [← z, hD3] at hp; cases hp
   have p1 : H1 p = Option.none := by
     have nmp : ¬ O.M p := new_notM S.ok (st3.p S1.p) hp
     exact st3.s.free nmp hp
   have P3 : O.P H3 := st3.p S1.p
   have nmp : ¬ O.M p := new_notM S.ok P3 hp
   have e5 : ∀ a u, H3 a = some u → a ≠ D → upd (upd H3 p (.lst [])) D (.lst (ys ++ [.ref p])) a = some u := fun a u e n => by
     rw [upd_ne n, upd_ne fun z => by rw [z, hp] at e; cases e]; exact e
   refine ⟨by rw [upd_ne pD]; exact hD3, by omega, ds.length - (i + 1), by omega, rfl, hlt, upd_same, by rw [List.length_append, ly]; rfl, ⟨fun a o e n => e5 a o (st3.s a o e n) fun z => (by rw [z, hD] at e; cases e), fun _ => S.ok.loc H3 _ (fun a ma => by rw [upd_ne fun z => nM (by rw [← z]; exact ma), upd_ne fun z => nmp (by rw [← z]; exact ma)]) P3, fun a u hu e => e5 a u (st3.t a u hu e) fun z => (by rw [z, hD] at e; cases e)⟩, as ++ [p], ?_, ?_, fun a ha => ?_⟩
   · refine List.nodup_append.mpr ⟨nd, by simp, fun a ha b hb e => ?_⟩
     obtain ⟨xs, z⟩ := ow.mem ha
     rw [List.mem_singleton.mp hb] at e
     have := sm a _ z
     rw [e, hp] at this
     cases this
   · rw [List.replicate_succ']
     refine OwAll.snoc1 (.list (by rw [upd_ne (Ne.symm pD)]; exact upd_same) .nil) (ow.to (fun b u hu hb => e5 b u (sm b u hb) fun z => ?_) fun a m xs q => e5 a _ (sm a _ q) (new a m).2)
     rw [z, hDy] at hb
     cases hb
     obtain ⟨us, e1 | ⟨o', e1⟩⟩ := hu <;> cases e1
   · rcases List.mem_append.mp ha with ha | ha
     · exact new a ha
     · rw [List.mem_singleton.mp ha]; exact ⟨p1, Ne.symm pD⟩
 · left
   have e : i = ds.length := by omega
   subst e
   have fr : ∀ a, H1 a = Option.none → ¬ O.M a := fun a z => new_notM S.ok S1.p z
   refine ⟨W.stop H2 _ kB st.t (Nat.le_refl _), k (.ref D) H2 _ (D :: as) (W.st.trans st) (.list hDy ow) (List.nodup_cons.mpr ⟨fun z => (new D z).2 rfl, nd⟩) (fun a ha => ?_) q⟩
   rcases List.mem_cons.mp ha with rfl | ha
   · exact W.st.s.free nM hD
   · exact W.st.s.free (fr a (new a ha).1) (new a ha).1
end
section
variable {ι κ : Type} {P : Program} {w : World} {K : PySem.W.Frag} {mg : Str → Option Value} {base : Heap} {k : Nat} {X : ι → Cx} {O : κ → Ob} {pos pl : Pos} {tg : Expr}
theorem s_setN (n : Nat) {x : Str} {px p0 : Pos} {iter : Expr} {scope : Scope} {fi : DI} {g : DG} (h : Nat) (N' : List Str) (C : Ctx3 P w K mg base k X) (S : ∀ i, ScopeOk h N' (X i).N scope (X i).env.scope) (hs : I3 K X O tg iter fi)
   (hg : G3 K (compX X scope N') h tg g) (hN : ∀ i, (X i).N.Nodup := by intro i; exact of_decide_eq_true (by kernel_rfl)) (hi : ∀ i, (X i).N[n]? = some x := by intro i; rfl) (hx : ∀ i, (X i).env.scope.names.lookup x = some .local := by intro i; rfl)
   (hsw : ∀ i, swapsWith (.ListComp (.List [] pl) [⟨tg, iter, [], 0⟩] scope p0) (some (.Name x px)) pos.line (X i).env = pure true := by intro i; rfl) (hset : ∀ i x, foldedSetIterable iter (X i).env x = pure x := by intro _ _; rfl) :
   S3 K X O (.Assign [.Name x px] (.ListComp (.List [] pl) [⟨tg, iter, [], 0⟩] scope p0) pos) (setTS n (oNils h fi g)) := by
 obtain ⟨ti, p1, d1⟩ := hs
 obtain ⟨tg', p2, d2, _, ow⟩ := hg
 exact ⟨_, fun i => ps_setComp (hN i) (hi i) (hx i) (hsw i) h (S i) (C.calm i) (p1 i) (fun c s H ex => p2 (i, ⟨c, s, H, ex⟩)) ow (fun c s H ex => pf_nil) (fun c s H ex => pe_lst pa_nil) (hset i), fun j => sd_setT (eo_nils (d1 j) d2)⟩
end
end L3
namespace HK
open PySem PySem.Spec PyProof.Rows PySem.SetTable SX
noncomputable instance : DecidableEq PyData := fun a b => Classical.propDecidable (a = b)
end HK
namespace L3
open PySem PySem.Spec
open PyProof.Rows hiding St
open L2
mutual
def solL : PyData → Bool
 | .none => true
 | .int _ => true
 | .str _ => true
 | .tuple ds => solLs ds
 | .list ds => solLs ds
 | _ => false
def solLs : List PyData → Bool
 | [] => true
 | d :: ds => solL d && solLs ds
end
end L3
namespace L3
open PySem PySem.Spec
open PyProof.Rows hiding St
open L2
section
variable {ι κ : Type} {K : PySem.W.Frag} {X : ι → Cx} {O : κ → Ob}
theorem t_chM {a b c : Expr} {fa fb fc : DE} {pos : Pos} (ha : E3 K X O a fa) (hb : E3 K X O b fb) (hc : E3 K X O c fc) (hm : lastMarks [.LtE, .Lt] [b, c] = false := by with_unfolding_all rfl) : T3 K X O (.Compare a [.LtE, .Lt] [b, c] pos) (bD (chD (fn2 (intF fun i j => .bool (decide (i ≤ j)))) (fn2 (intF fun i j => .bool (decide (i < j)))) fa fb fc)) :=
 let ⟨_, p1, d1⟩ := ha; let ⟨_, p2, d2⟩ := hb; let ⟨_, p3, d3⟩ := hc; ⟨_, fun i => pt_chain op_le op_lt (p1 i) (p2 i) (p3 i) hm, fun j => td_val (ed_chain opd_le opd_lt (d1 j) (d2 j) (d3 j))⟩
end
end L3
namespace L51
open PySem PySem.Spec
open PyProof.Rows hiding St
open L2 L3 L6
local macro_rules | `(tactic| infer_instance) => `(tactic| first | refine ⟨_, _, rfl, rfl, ?_⟩ | refine ⟨_, eqI, ?_⟩ | refine ⟨_, neI, ?_⟩ | refine ⟨_, rfl, ?_⟩ | refine ⟨rfl, ?_⟩ | refine ⟨(by show _ ≤ sizeLine; rw [sizeLine_eq]; exact Nat.le_of_ble_eq_true rfl), ?_⟩ | refine ⟨_, _, rfl, ?_⟩ | refine ⟨_, _, _, rfl, ?_⟩ | refine iteT ?_ | refine iteF ?_ | refine Or.inl ⟨rfl, ?_⟩ | refine Or.inr ⟨rfl, ?_⟩ | refine ⟨_, eqS_t (by decide +kernel), ?_⟩ | refine ⟨_, eqS_f (by decide +kernel) (by decide +kernel), ?_⟩ | refine ⟨_, inS_t (by decide +kernel), ?_⟩ | refine ⟨_, inS_f (by decide +kernel), ?_⟩)
section
variable {P : Program} {w : World} {K : PySem.W.Frag} {mg : Str → Option Value} {base : Heap} {k : Nat}
abbrev sNameOf : Stmt := top 1
theorem scNameOf : FnScope ["machine", "room", "begin"] ["machine", "room"] (defScope sNameOf) := ⟨rfl, rfl, rfl, by decide +kernel, rfl, by decide +kernel, by decide +kernel⟩
theorem d_name_of (B : Blt mg) (T : Top3 K mg "name_of" sNameOf) : Def3 P w K mg base 1 "name_of" ["machine", "room"] (spO K (fun _ => True) 2 nameLF) := by
 refine mk_O T scNameOf (fun _ _ _ _ _ _ us hl => len2 hl fun _ _ => rfl) rfl fun f cdv A outer s H E O hφ C => ⟨_, (ss_cons (s_set 2 (e_idx C (e_var 0) e_int)) (ss_cons (s_if (t_eq C (e_var 1) (e_var 2)) (ss_one (s_ret e_int)) ss_nil) (ss_one (s_ret (e_if (t_eq C (e_var 1) e_int) (e_var 2) (e_var 1)))))), fun ds Qr hn q => ?_⟩
 obtain ⟨m, r, rfl, q⟩ := q
 unfold Mc.nm at q
 (repeat infer_instance)
 rw [eqR]
 by_cases h : r = m.b
 · rw [decide_eq_true h]
   rw [if_pos h] at q
   exact q
 · rw [decide_eq_false h]
   rw [if_neg h] at q
   refine ⟨_, _, rfl, rfl, _, eqN r 0, _, rfl, ?_⟩
   by_cases h2 : r = 0
   · rw [decide_eq_true h2]
     rw [if_pos h2] at q
     (repeat infer_instance)
     exact q
   · rw [decide_eq_false h2]
     rw [if_neg h2] at q
     (repeat infer_instance)
     exact q
end
section
variable {P : Program} {w : World} {K : PySem.W.Frag} {mg : Str → Option Value} {base : Heap} {k : Nat}
abbrev sGrammarOf : Stmt := top 2
theorem scGrammarOf : FnScope ["machine", "rules", "p", "letter", "q", "room"] ["machine"] (defScope sGrammarOf) := ⟨rfl, rfl, rfl, by decide +kernel, rfl, by decide +kernel, by decide +kernel⟩
theorem d_grammar_of (B : Blt mg) (d_name_of : Def3 P w K mg base 1 "name_of" ["machine", "room"] (spO K (fun _ => True) 2 nameLF)) (T : Top3 K mg "grammar_of" sGrammarOf) : Def3 P w K mg base 2 "grammar_of" ["machine"] (spO K (fun _ => True) 1 gramLF) := by
 refine mk_O T scGrammarOf (fun _ _ _ _ _ _ us hl => len1 hl fun _ => rfl) rfl fun f cdv A outer s H E O hφ C => ⟨_, (ss_cons (s_set 1 (e_lst a_nil)) (ss_cons (s_for C (j_new (i_tup C (e_idx C (e_var 0) e_int))) (g_tup (h := 1000) C (gq_cons 2 (gq_cons 3 (gq_cons 4 gq_nil)))) (ss_one (s_app 1 C (e_tup (a_cons (e_call C d_name_of (fun _ => trivial) (a_cons (e_var 0) (a_cons (e_var 2) a_nil))) (a_cons (e_tup (a_cons (e_var 3) (a_cons (e_call C d_name_of (fun _ => trivial) (a_cons (e_var 0) (a_cons (e_var 4) a_nil))) a_nil))) a_nil)))))) (ss_cons (s_for C (j_new (i_tup C (e_idx C (e_var 0) e_int))) (g_name (h := 1000) 5) (ss_one (s_app 1 C (e_tup (a_cons (e_call C d_name_of (fun _ => trivial) (a_cons (e_var 0) (a_cons (e_var 5) a_nil))) (a_cons (e_tup a_nil) a_nil)))))) (ss_one (s_ret (e_tup (a_cons (e_idx C (e_var 0) e_int) (a_cons (e_tuplec C B (a_cons (e_var 1) a_nil)) a_nil)))))))), fun ds Qr hn q => ?_⟩
 obtain ⟨m, rfl, ok, q⟩ := q
 have sz := sizeLine_eq
 have la := ok.al
 have le := ok.el
 (repeat infer_instance)
 refine forGo_rev (fun i ρ => ∃ x2 x3 x4 x5, ρ = [some (.im m.enc), some (.own ((m.a.take i).map m.ruA)), x2, x3, x4, x5]) ⟨_, _, _, _, rfl⟩ (fun ρ hρ => ?_) fun i d ρ N hd nx hρ => ?_
 · obtain ⟨x2, x3, x4, x5, rfl⟩ := hρ
   rw [List.length_map, List.take_length]
   (repeat infer_instance)
   refine forGo_rev (fun i ρ => ∃ x2 x3 x4 x5, ρ = [some (.im m.enc), some (.own (m.a.map m.ruA ++ (m.e.take i).map m.ruE)), x2, x3, x4, x5]) ⟨x2, x3, x4, x5, by rw [List.take_zero, List.map_nil, List.append_nil]⟩ (fun ρ hρ => ?_) fun i d ρ N hd nx hρ => ?_
   · obtain ⟨x2, x3, x4, x5, rfl⟩ := hρ
     rw [List.length_map, List.take_length]
     (repeat infer_instance)
     exact q
   · obtain ⟨x2, x3, x4, x5, rfl⟩ := hρ
     rw [List.getElem?_map] at hd
     obtain ⟨r, hr, rfl⟩ := Option.map_eq_some_iff.mp hd
     refine ⟨rfl, ?_⟩
     (repeat infer_instance)
     refine ⟨by rw [List.length_append, List.length_map, List.length_map, List.length_take]; omega, nx [some (.im m.enc), some (.own (m.a.map m.ruA ++ (m.e.take i).map m.ruE ++ [m.ruE r])), x2, x3, x4, some (.im (.int (r : Nat)))] ⟨_, _, _, _, by rw [take_at hr, List.map_append, ← List.append_assoc]; rfl⟩⟩
 · obtain ⟨x2, x3, x4, x5, rfl⟩ := hρ
   rw [List.getElem?_map] at hd
   obtain ⟨x, hx, rfl⟩ := Option.map_eq_some_iff.mp hd
   refine ⟨rfl, ?_⟩
   (repeat infer_instance)
   refine ⟨by rw [List.length_map, List.length_take]; omega, nx [some (.im m.enc), some (.own ((m.a.take i).map m.ruA ++ [m.ruA x])), some (.im (.int (x.p : Nat))), some (.im (.str (tx [x.c]))), some (.im (.int (x.q : Nat))), x5] ⟨_, _, _, _, by rw [take_at hx, List.map_append]; rfl⟩⟩
end
section
variable {P : Program} {w : World} {K : PySem.W.Frag} {mg : Str → Option Value} {base : Heap} {k : Nat}
abbrev sWholeL : Stmt := top 6
theorem scWholeL : FnScope ["_law_found"] ["_law_found"] (defScope sWholeL) := ⟨rfl, rfl, rfl, by decide +kernel, rfl, by decide +kernel, by decide +kernel⟩
theorem d_law_whole (B : Blt mg) (T : Top3 K mg "_law_whole" sWholeL) : Def3 P w K mg base 1 "_law_whole" ["_law_found"] (spO K (fun _ => True) 1 wholeLF) := by
 refine mk_O T scWholeL (fun _ _ _ _ _ _ us hl => len1 hl fun _ => rfl) rfl fun f cdv A outer s H E O hφ C => ⟨_, (ss_one (s_ret (e_and (e_isI (T := "int") C B (e_var 0) B.int) (e_one (e_not (e_isI (T := "bool") C B (e_var 0) B.bool)))))), fun ds Qr hn q => ?_⟩
 obtain ⟨d, rfl, ⟨i, rfl, q⟩ | ⟨x, rfl, q⟩⟩ := q
 · (repeat infer_instance)
   exact q
 · (repeat infer_instance)
   exact q
end
section
variable {P : Program} {w : World} {K : PySem.W.Frag} {mg : Str → Option Value} {base : Heap} {k : Nat}
abbrev sWordsL : Stmt := top 8
theorem scWordsL : FnScope ["_law_grammar", "_law_most", "_law_made", "_law_more", "_law_name", "_law_body", "_law_found", "_law_thing", "_law_longer", "_law_one", "_law_other", "_law_word"] ["_law_grammar", "_law_most"] (defScope sWordsL) := ⟨rfl, rfl, rfl, by decide +kernel, rfl, by decide +kernel, by decide +kernel⟩
theorem d_law_words (B : Blt mg) (T : Top3 K mg "_law_words" sWordsL) : Def3 P w K mg base 1 "_law_words" ["_law_grammar", "_law_most"] (spO K (fun _ => True) 2 wordsGF) := by
 refine mk_O T scWordsL (fun _ _ _ _ _ _ us hl => len2 hl fun _ _ => rfl) rfl fun f cdv A outer s H E O hφ C => ⟨_, (ss_cons (s_setN 2 1 ["_law_name", "_law_grammar", "_law_most", "_law_made", "_law_more", "._law_name", "_law_body", "_law_found", "_law_thing", "_law_longer", "_law_one", "_law_other", "_law_word"] C (fun _ => .of rfl (by kernel_rfl)) (i_r1 C B (a_cons (e_idx C (e_var 0) e_int) a_nil)) (g_name 0)) (ss_cons (s_set 3 e_bl) (ss_cons (s_while C (t_tru C (e_var 3)) (ss_cons (s_set 3 e_bl) (ss_one (s_for C (j_new (i_tup C (e_idx C (e_var 0) e_int))) (g_tup (h := 1000) C (gq_cons 4 (gq_cons 5 gq_nil))) (ss_cons (s_set 6 (e_lst (a_cons e_str a_nil))) (ss_cons (s_dis 6 (s_for C (j_new (i_tup C (e_var 5))) (g_name (h := 1000) 7) (ss_cons (s_set 8 (e_lst a_nil)) (ss_cons (s_for C (j_var C 6) (g_name (h := 1000) 9) (ss_one (s_lend 2 (s_for C (j_ifL 2 C (t_val (e_isI (T := "str") C B (e_var 7) B.str)) (e_lst (a_cons (e_var 7) a_nil)) (e_var 7)) (g_name (h := 1000) 10) (ss_one (s_if (t_w (w_and (t_le (e_len C B (a_cons (e_add C (e_var 9) (e_var 10)) a_nil)) (e_var 1)) (w_and1 (t_notIn C (e_add C (e_var 9) (e_var 10)) (e_var 8))))) (ss_one (s_app 8 C (e_add C (e_var 9) (e_var 10)))) ss_nil)))))) (ss_one (s_dis 8 (s_setV 6 8))))))) (ss_one (s_for C (j_var C 6) (g_name (h := 1000) 11) (ss_one (s_if (t_notIn C (e_var 11) (e_idx C (e_varT 2) (e_var 4))) (ss_cons (s_appT 2 C (l_ix C (l_var 2) (e_var 4)) (o_flat (e_var 11))) (ss_one (s_set 3 e_bl))) ss_nil)))))))))) (ss_one (s_ret (e_varT 2)))))), fun ds Qr hn q => ?_⟩
 obtain ⟨m, rfl, ok, q⟩ := q
 have sz := sizeLine_eq
 have n4 := ok.n4
 (repeat infer_instance)
 refine ⟨by omega, by omega, by rw [numsD_len, Int.toNat_natCast]; omega, fun d hd => trivial, ?_⟩
 rw [numsD_len, Int.toNat_natCast]
 (repeat infer_instance)
 refine ⟨fun k ρ => ∃ (ws : Ws) (more : Bool) (x4 x5 x6 x7 x8 x9 x10 x11 : Option DV), m.Snd ws ∧ (more = false → ∀ r ∈ m.rules, ∀ w ∈ m.fnd ws r, w ∈ ws.at_ (m.lhs r)) ∧ k = (if more = true then 485 - tot ws else 0) ∧ ρ = [some (.im m.gram), some (.im (.int 4)), some (.thg (OwnT (wsD ws))), some (.im (.bool more)), x4, x5, x6, x7, x8, x9, x10, x11], ⟨_, List.replicate m.n [], true, none, none, none, none, none, none, none, none, snd0, (fun z => by cases z), rfl, ?_⟩, ?_⟩
 · unfold wsD
   rw [List.map_replicate]
   rfl
 · rintro k ρ ⟨ws, more, x4, x5, x6, x7, x8, x9, x10, x11, sd, cl, rfl, rfl⟩
   (repeat infer_instance)
   cases more with
   | false =>
     (repeat infer_instance)
     refine q ws sd.len fun r hr l hl => ?_
     have el : ws.at_ (m.nm r) = l := by unfold Ws.at_; rw [List.getD_eq_getElem?_getD, hl]; rfl
     rw [← el]
     refine ⟨sd.nd _, fun w => ⟨fun hw => sd.snd r hr w hw, fun ⟨h1, e, he, run⟩ => full (cl rfl) w r e he run h1⟩⟩
   | true =>
     (repeat infer_instance)
     rw [gram_ru]
     refine forGo_rev (fun i ρ => ∃ x4 x5 x6 x7 x8 x9 x10 x11, ρ = [some (.im m.gram), some (.im (.int 4)), some (.thg (OwnT (wsD ((m.rules.take i).foldl m.rl (ws, false)).1))), some (.im (.bool ((m.rules.take i).foldl m.rl (ws, false)).2)), x4, x5, x6, x7, x8, x9, x10, x11]) ⟨_, _, _, _, _, _, _, _, rfl⟩ (fun ρ hρ => ?_) fun i d ρ N hd nx hρ => ?_
     · obtain ⟨x4, x5, x6, x7, x8, x9, x10, x11, rfl⟩ := hρ
       rw [List.length_map, List.take_length]
       obtain ⟨s1, g1, f1⟩ := turn_ok ok (l := m.rules) (st := (ws, false)) (fun r h => h) sd
       have u1 := turn_up ok (l := m.rules) (st := (ws, false)) (fun r h => h) sd.len
       generalize hst : m.rules.foldl m.rl (ws, false) = st at s1 g1 f1 u1
       refine ⟨_, ?_, st.1, st.2, x4, x5, x6, x7, x8, x9, x10, x11, s1, fun e => ?_, rfl, rfl⟩
       · have t1 := s1.tot ok
         have t0 := sd.tot ok
         rw [if_pos rfl]
         cases hb : st.2 with
         | false => rw [if_neg (by decide)]; omega
         | true =>
           rw [if_pos rfl]
           rcases u1.lt hb with z | z
           · cases z
           · have z : tot ws < tot st.1 := z
             omega
       · have := f1 e
         rw [g1.same e]
         exact this
     · obtain ⟨x4, x5, x6, x7, x8, x9, x10, x11, rfl⟩ := hρ
       rw [List.getElem?_map] at hd
       obtain ⟨r, hr, rfl⟩ := Option.map_eq_some_iff.mp hd
       have hrm := List.mem_of_getElem? hr
       have e1 : (m.rules.take (i + 1)).foldl m.rl (ws, false) = m.rl ((m.rules.take i).foldl m.rl (ws, false)) r := by rw [take_at hr, List.foldl_append]; rfl
       have s1 := (turn_ok ok (l := m.rules.take i) (st := (ws, false)) (fun r h => List.mem_of_mem_take h) sd).1
       generalize (m.rules.take i).foldl m.rl (ws, false) = st at e1 s1 ⊢
       have fin : ∀ (Dd : DEnds) (x5 x7 x8 x9 x10 x11 : Option DV), Dd.nx = N → (forS (varJ 6) (gN 11) (ifS (bD (opDE (fn2 (inF true)) (vD 11) (opDE (fn2 idxF) (vTr 2) (vD 4)))) (seqD (appTr 2 (lIx lVar (vD 4)) (oFlat (vD 11))) (asgS 3 (cD (PyData.bool true)))) fun Dd ρ => Dd.nx ρ)) Dd [some (.im m.gram), some (.im (.int 4)), some (.thg (OwnT (wsD st.1))), some (.im (.bool st.2)), some (.im (.int (m.lhs r : Nat))), x5, some (.im (.list ((m.fnd st.1 r).map fun w => .str (tx w)))), x7, x8, x9, x10, x11] := by
         intro Dd x5 x7 x8 x9 x10 x11 hD
         have fo := fnd_ok ok s1 hrm
         have hro := rule_ok ok hrm
         refine ⟨_, rfl, ?_⟩
         refine forGo_rev (fun k ρ => ∃ x11, ρ = [some (.im m.gram), some (.im (.int 4)), some (.thg (OwnT (wsD (((m.fnd st.1 r).take k).foldl (addW (m.lhs r)) st).1))), some (.im (.bool (((m.fnd st.1 r).take k).foldl (addW (m.lhs r)) st).2)), some (.im (.int (m.lhs r : Nat))), x5, some (.im (.list ((m.fnd st.1 r).map fun w => .str (tx w)))), x7, x8, x9, x10, x11]) ⟨_, rfl⟩ (fun ρ hρ => ?_) fun k d ρ N3 hd nx3 hρ => ?_
         · obtain ⟨x11, rfl⟩ := hρ
           rw [List.length_map, List.take_length, hD]
           rw [e1] at nx
           exact nx _ ⟨_, _, _, _, _, _, _, _, rfl⟩
         · obtain ⟨x11, rfl⟩ := hρ
           rw [List.getElem?_map] at hd
           obtain ⟨w, hw, rfl⟩ := Option.map_eq_some_iff.mp hd
           have wo := fo w (List.mem_of_getElem? hw)
           have es : ((m.fnd st.1 r).take (k + 1)).foldl (addW (m.lhs r)) st = addW (m.lhs r) (((m.fnd st.1 r).take k).foldl (addW (m.lhs r)) st) w := by rw [take_at hw, List.foldl_append]; rfl
           have s2 : m.Snd (((m.fnd st.1 r).take k).foldl (addW (m.lhs r)) st).1 := by
             rw [lhs_rm]
             exact (fold_add ok hro s1 fun v hv => fo v (List.mem_of_mem_take hv)).1
           generalize ((m.fnd st.1 r).take k).foldl (addW (m.lhs r)) st = cur at es s2 ⊢
           rw [es] at nx3
           have hn : m.lhs r < cur.1.length := by rw [s2.len, lhs_rm]; exact m.nm_lt ok hro
           have few : (cur.1.at_ (m.lhs r)).length ≤ 121 := by rw [lhs_rm]; exact s2.few ok hro
           refine ⟨rfl, ?_⟩
           refine ⟨_, _, rfl, rfl, _, rfl, _, _, rfl, rfl, _, idx_ws hn, _, in_wD ⟨wo.1, by obtain ⟨_, e, _, run⟩ := wo; exact run_low ok run⟩ (fun v hv => ?_) (by omega), _, rfl, ?_⟩
           · rw [lhs_rm] at hv
             obtain ⟨h1, e, _, run⟩ := s2.snd _ hro v hv
             exact ⟨h1, run_low ok run⟩
           · unfold addW at nx3
             cases hc : (cur.1.at_ (m.lhs r)).contains w with
             | true =>
               rw [if_pos hc] at nx3
               exact nx3 _ ⟨_, rfl⟩
             | false =>
               rw [if_neg (by rw [hc]; decide)] at nx3
               (repeat infer_instance)
               refine ⟨_, _, m.lhs r, wD1 (cur.1.at_ (m.lhs r)), rfl, rfl, rfl, by unfold ixN; rw [if_pos (by omega), if_pos (by rw [List.length_map]; omega)]; rfl, by rw [List.getElem?_map, at_get hn]; rfl, _, rfl, ?_⟩
               (repeat infer_instance)
               refine ⟨by rw [List.length_map]; omega, ?_⟩
               rw [List.nil_append, dset_ws hn]
               (repeat infer_instance)
               exact nx3 _ ⟨_, rfl⟩
       cases r with
       | inl x =>
         have fg : flS (some (.im m.gram)) = some (.im m.gram) := by
           unfold flS
           dsimp only
           rw [if_pos (flat_mcG m)]
         have hx : x ∈ m.a := by
           rcases List.mem_append.mp hrm with z | z
           · obtain ⟨y, hy, e⟩ := List.mem_map.mp z; cases e; exact hy
           · obtain ⟨y, hy, e⟩ := List.mem_map.mp z; cases e
         have sec : ∀ (Dd : DEnds) (ρ : DSt) (x8 x9 x10 x11 : Option DV), ρ = [some (.im m.gram), some (.im (.int 4)), some (.thg (OwnT (wsD st.1))), some (.im (.bool st.2)), some (.im (.int (m.nm x.p : Nat))), some (.im (.tuple [.str (tx [x.c]), .int (m.nm x.q : Nat)])), some (.im (.list [.str (tx [x.c])])), some (.im (.int (m.nm x.q : Nat))), x8, x9, x10, x11] → (∀ x5 x7 x8 x9 x10 x11 : Option DV, Dd.nx [some (.im m.gram), some (.im (.int 4)), some (.thg (OwnT (wsD st.1))), some (.im (.bool st.2)), some (.im (.int (m.nm x.p : Nat))), x5, some (.im (.list ((m.fnd st.1 (.inl x)).map fun w => .str (tx w)))), x7, x8, x9, x10, x11]) → (seqD (asgS 8 (lstD aNil)) (seqD (forS (varJ 6) (gN 9) (lendS 2 (forS (ifJ (bD (isID "str" (vD 7))) (newJ (srcL (lstD (aCons (vD 7) aNil)))) (lentJ 2 (vD 7))) (gN 10) (ifS (andT (bD (opDE (fn2 (intF fun i j => PyData.bool (decide (i ≤ j)))) (callDE (fn1 lenF) (aCons (opDE (fn2 addF) (vD 9) (vD 10)) aNil)) (vD 1))) (bD (opDE (fn2 (inF true)) (opDE (fn2 addF) (vD 9) (vD 10)) (vD 8)))) (appS 8 (opDE (fn2 addF) (vD 9) (vD 10))) fun Dd ρ => Dd.nx ρ)))) (disS 8 (setS 6 8)))) Dd ρ := by
           intro Dd ρ x8 x9 x10 x11 hρ hD
           subst hρ
           have hq : m.nm x.q < st.1.length := by rw [s1.len]; exact m.nm_lt ok (ok.a x hx).2
           have hl := s1.few ok (ok.a x hx).2
           have nd := s1.nd (m.nm x.q)
           (repeat infer_instance)
           intro Z
           (repeat infer_instance)
           refine ⟨m.nm x.q, (st.1.at_ (m.nm x.q)).map (fun w => .str (tx w)), rfl, by rw [List.getElem?_map, at_get hq]; rfl, ?_⟩
           refine forGo_rev (fun k ρ => ∃ x10 : Option DV, ρ = [some (.im m.gram), some (.im (.int 4)), some (.thr (LentT Z (wsD st.1))), some (.im (.bool st.2)), some (.im (.int (m.nm x.p : Nat))), some (.im (.tuple [.str (tx [x.c]), .int (m.nm x.q : Nat)])), some (.im (.list [.str (tx [x.c])])), some (.im (.int (m.nm x.q : Nat))), some (.own ((lngW x.c ((st.1.at_ (m.nm x.q)).take k)).map fun w => .str (tx w))), some (.im (.str (tx [x.c]))), x10, x11]) ⟨_, rfl⟩ (fun ρ hρ => ?_) fun k d ρ N3 hd nx3 hρ => ?_
           · obtain ⟨x10, rfl⟩ := hρ
             refine ⟨rfl, ?_⟩
             rw [List.length_map, List.take_length]
             have fl : flS (some (.own ((lngW x.c (st.1.at_ (m.nm x.q))).map fun w => .str (tx w)))) = some (.own ((lngW x.c (st.1.at_ (m.nm x.q))).map fun w => .str (tx w))) := by
               unfold flS
               dsimp only
               rw [if_pos (flats_map (fun _ => rfl) _)]
             simp only [List.map_cons, List.map_nil, fg, fl]
             refine .inr ⟨_, rfl, _, rfl, ?_⟩
             exact hD _ _ _ _ _ _
           · obtain ⟨x10, rfl⟩ := hρ
             rw [List.getElem?_map] at hd
             obtain ⟨v, hv, rfl⟩ := Option.map_eq_some_iff.mp hd
             rw [lng_at hv] at nx3
             obtain ⟨v4, e, _, run⟩ := s1.snd _ (ok.a x hx).2 v (List.mem_of_getElem? hv)
             have lo : ∀ c ∈ x.c :: v, c < 1000 := run_low ok (r := x.p) (e := e) ⟨x.q, hx, run⟩
             (repeat infer_instance)
             refine ⟨_, add_tx (v := [x.c]) (w := v) (by rw [List.length_singleton]; omega), ?_⟩
             (repeat infer_instance)
             refine ⟨_, len_tx (by rw [List.length_append, List.length_singleton]; omega), ?_⟩
             (repeat infer_instance)
             by_cases c3 : v.length ≤ 3
             · rw [if_pos c3] at nx3
               rw [if_pos (decide_eq_true (by rw [List.length_append, List.length_singleton]; omega))]
               (repeat infer_instance)
               refine ⟨_, add_tx (v := [x.c]) (w := v) (by rw [List.length_singleton]; omega), ?_⟩
               (repeat infer_instance)
               refine ⟨_, in_wD (w := x.c :: v) (l := lngW x.c ((st.1.at_ (m.nm x.q)).take k)) ⟨by rw [List.length_cons]; omega, lo⟩ (fun u hu => ?_) (by have := lng_len (c := x.c) (l := (st.1.at_ (m.nm x.q)).take k); rw [List.length_take] at this; omega), ?_⟩
               · obtain ⟨u', hu', rfl, h4⟩ := lng_mem hu
                 obtain ⟨_, e', _, run'⟩ := s1.snd _ (ok.a x hx).2 u' (List.mem_of_mem_take hu')
                 exact ⟨h4, run_low ok (r := x.p) (e := e') ⟨x.q, hx, run'⟩⟩
               rw [lng_new nd hv]
               (repeat infer_instance)
               refine ⟨_, add_tx (v := [x.c]) (w := v) (by rw [List.length_singleton]; omega), rfl, by have := lng_len (c := x.c) (l := (st.1.at_ (m.nm x.q)).take k); rw [List.length_take] at this; rw [List.length_map]; omega, ?_⟩
               rw [List.map_append] at nx3
               exact nx3 _ ⟨_, rfl⟩
             · rw [if_neg c3] at nx3
               rw [if_neg (by rw [List.length_append, List.length_singleton]; intro z; have := of_decide_eq_true z; omega)]
               exact nx3 _ ⟨_, rfl⟩
         refine ⟨rfl, ?_⟩
         (repeat infer_instance)
         refine .inr ⟨_, rfl, ?_⟩
         (repeat infer_instance)
         intro Z
         (repeat infer_instance)
         have e0 : Str.ofString "" ++ tx [x.c] = tx [x.c] := by
           show Str.mk _ = Str.mk _
           rfl
         rw [e0]
         have lo1 : ∀ c ∈ [x.c], c < 1000 := by
           obtain ⟨ls, _, lo, hl⟩ := ok.ls
           intro c hc
           rw [List.mem_singleton.mp hc]
           have hx : x ∈ m.a := by
             rcases List.mem_append.mp hrm with z | z
             · obtain ⟨y, hy, e⟩ := List.mem_map.mp z; cases e; exact hy
             · obtain ⟨y, hy, e⟩ := List.mem_map.mp z; cases e
           exact lo _ (hl x hx)
         refine ⟨_, in_wD (w := [x.c]) (l := []) ⟨by simp, lo1⟩ (fun _ h => nomatch h) (by simp), _, rfl, ?_⟩
         (repeat infer_instance)
         refine .inr ⟨_, rfl, _, rfl, ?_⟩
         refine ⟨rfl, ?_⟩
         exact sec _ _ _ _ _ _ (congrArg (List.cons · _) fg) fun _ _ _ _ _ _ => fin _ _ _ _ _ _ _ (show N = N from rfl)
       | inr e =>
         refine ⟨rfl, ?_⟩
         (repeat infer_instance)
         refine .inr ⟨_, rfl, ?_⟩
         refine ⟨_, _, rfl, rfl, [], rfl, rfl, ?_⟩
         exact fin _ _ _ _ _ _ _ (show N = N from rfl)
end
section
variable {P : Program} {w : World} {K : PySem.W.Frag} {mg : Str → Option Value} {base : Heap} {k : Nat}
abbrev sMachineL : Stmt := top 9
theorem scMachineL : FnScope ["_law_deal_here", "_law_letters_here", "_law_rooms", "_law_ends", "_law_arrows", "_law_k", "_law_letter"] ["_law_deal_here"] (defScope sMachineL) := ⟨rfl, rfl, rfl, by decide +kernel, rfl, by decide +kernel, by decide +kernel⟩
theorem d_law_machine (B : Blt mg) (d_law_draw : DDraw P w K mg base) (d_law_letters : Def3 P w K mg base 2 "_law_letters" ["_law_deal_here"] (spD K IsDeal 0 letters2F)) (T : Top3 K mg "_law_machine" sMachineL) : Def3 P w K mg base 3 "_law_machine" ["_law_deal_here"] (spD K IsDeal 0 machF) := by
 refine mk_D T scMachineL (fun _ _ _ _ _ _ us hl => len1 hl fun _ => rfl) rfl fun f cdv A outer s H E O hφ C => ?_
 have hO : ∀ j : Unit, IsDeal ((fun _ : Unit => O) j) := fun _ => hφ
 refine ⟨_, (ss_cons (s_set 1 (e_callO 0 C d_law_letters hO a_nil)) (ss_cons (s_set 2 (e_add C e_int (e_callO 0 C d_law_draw hO (a_cons e_int a_nil)))) (ss_cons (s_set 3 (e_tuplec C B (a_cons (e_comp 1 ["_law_room", "_law_deal_here", "_law_letters_here", "_law_rooms", "_law_ends", "_law_arrows", "_law_k", "_law_letter"] C (fun _ => .of rfl (by kernel_rfl)) (i_r1 C B (a_cons (e_var 2) a_nil)) (g_name 0) (f_one (t_eq (C.comp _ _) (e_callO 1 (C.comp _ _) d_law_draw (upD hO) (a_cons e_int a_nil)) e_int)) (e_var 0)) a_nil))) (ss_cons (s_set 4 (e_lst a_nil)) (ss_cons (s_for C (j_new (i_r1 C B (a_cons (e_callO 0 C d_law_draw hO (a_cons e_int a_nil)) a_nil))) (g_name (h := 1000) 5) (ss_cons (s_set 6 (e_idx C (e_var 1) (e_callO 0 C d_law_draw hO (a_cons (e_len C B (a_cons (e_var 1) a_nil)) a_nil)))) (ss_one (s_app 4 C (e_tup (a_cons (e_callO 0 C d_law_draw hO (a_cons (e_var 2) a_nil)) (a_cons (e_var 6) (a_cons (e_callO 0 C d_law_draw hO (a_cons (e_var 2) a_nil)) a_nil)))))))) (ss_one (s_ret (e_tup (a_cons (e_var 2) (a_cons (e_callO 0 C d_law_draw hO (a_cons (e_var 2) a_nil)) (a_cons (e_var 3) (a_cons (e_tuplec C B (a_cons (e_var 4) a_nil)) a_nil)))))))))))), fun ds Qr hn q => ?_⟩
 obtain ⟨rfl, q⟩ := q
 have sz := sizeLine_eq
 (repeat infer_instance)
 intro ls l1 l3 lo pw
 refine ⟨flats_map (fun _ => rfl) _, ?_⟩
 (repeat infer_instance)
 refine ⟨by decide, by decide, fun k k0 k1 => ?_⟩
 obtain ⟨n, rfl⟩ : ∃ n : Nat, k = n := ⟨k.toNat, by omega⟩
 (repeat infer_instance)
 rw [show (1 : Int) + (n : Nat) = ((n + 1 : Nat) : Int) by omega]
 generalize hN : n + 1 = N
 have N1 : 1 ≤ N := by omega
 have N4 : N ≤ 4 := by omega
 (repeat infer_instance)
 refine ⟨by omega, by omega, ?_⟩
 refine comp_sub (α := Nat) (enc := fun k : Nat => .int (0 + (k : Nat))) (fun x hx Pn Py hn hy => ?_) (by rw [List.length_range, Int.toNat_natCast]; omega) fun bs hb => ?_
 · (repeat infer_instance)
   refine ⟨by decide, by decide, fun k k0 k1 => ?_⟩
   (repeat infer_instance)
   generalize (if false = true then !(R.o (PyData.int k)).d.eqv (R.o (PyData.int 0)).d else (R.o (PyData.int k)).d.eqv (R.o (PyData.int 0)).d) = t
   cases t with
   | false => exact hn
   | true => exact ⟨_, _, rfl, rfl, hy⟩
 · have eb : bs.map (fun k : Nat => PyData.int (0 + (k : Nat))) = bs.map fun r : Nat => PyData.int (r : Nat) := List.map_congr_left fun k _ => by rw [Int.zero_add]
   rw [eb]
   have hb' : ∀ r ∈ bs, r < N := fun r hr => by have := List.mem_range.mp (hb.subset hr); simpa using this
   have hbl : bs.length ≤ 4 := by have := hb.length_le; rw [List.length_range, Int.toNat_natCast] at this; omega
   (repeat infer_instance)
   refine ⟨flats_map (fun _ => rfl) _, ?_⟩
   (repeat infer_instance)
   refine ⟨by decide, by decide, fun k k0 k1 => ?_⟩
   obtain ⟨c, rfl⟩ : ∃ c : Nat, k = c := ⟨k.toNat, by omega⟩
   (repeat infer_instance)
   refine ⟨by omega, by omega, rfl, ?_⟩
   rw [Int.toNat_natCast]
   refine forGo_rev (fun i ρ => ∃ (ar : List Ar) (x5 x6 : Option DV), ar.length = i ∧ (∀ x ∈ ar, x.p < N ∧ x.q < N ∧ x.c ∈ ls) ∧ ρ = [some .ob, some (.own (ls.map fun c => .str (sg c))), some (.im (.int (N : Nat))), some (.im (.tuple (bs.map fun r => .int (r : Nat)))), some (.own (ar.map Ar.enc)), x5, x6]) ⟨[], _, _, rfl, (fun _ h => nomatch h), rfl⟩ (fun ρ hρ => ?_) fun i d ρ N2 hd nx hρ => ?_
   · obtain ⟨ar, x5, x6, la, ha, rfl⟩ := hρ
     rw [numsD_len] at la
     (repeat infer_instance)
     refine ⟨by omega, by omega, fun k k0 k1 => ?_⟩
     obtain ⟨b, rfl⟩ : ∃ b : Nat, k = b := ⟨k.toNat, by omega⟩
     (repeat infer_instance)
     exact q ⟨N, b, bs, ar⟩ ⟨N1, N4, by show b < N; omega, hb', hbl, by show ar.length ≤ 6; omega, fun x hx => ⟨(ha x hx).1, (ha x hx).2.1⟩, ls, l3, (fun c hc => by have := lo c hc; unfold isLow at this; omega), fun x hx => (ha x hx).2.2⟩
   · obtain ⟨ar, x5, x6, la, ha, rfl⟩ := hρ
     obtain ⟨hi, rfl⟩ := numsD_get hd
     refine ⟨rfl, ?_⟩
     (repeat infer_instance)
     rw [List.length_map]
     refine ⟨by omega, by omega, fun k k0 k1 => ?_⟩
     obtain ⟨t, rfl⟩ : ∃ t : Nat, k = t := ⟨k.toNat, by omega⟩
     have ht : t < ls.length := by omega
     refine ⟨_, idx_lst (by rw [List.getElem?_map, List.getElem?_eq_getElem ht]; rfl), rfl, ?_⟩
     (repeat infer_instance)
     refine ⟨by omega, by omega, fun k k0 k1 => ?_⟩
     obtain ⟨p, rfl⟩ : ∃ p : Nat, k = p := ⟨k.toNat, by omega⟩
     (repeat infer_instance)
     refine ⟨by omega, by omega, fun k k0 k1 => ?_⟩
     obtain ⟨q', rfl⟩ : ∃ q' : Nat, k = q' := ⟨k.toNat, by omega⟩
     (repeat infer_instance)
     refine ⟨by rw [List.length_map]; omega, nx [some .ob, some (.own (ls.map fun c => .str (sg c))), some (.im (.int (N : Nat))), some (.im (.tuple (bs.map fun r => .int (r : Nat)))), some (.own (ar.map Ar.enc ++ [Ar.enc ⟨p, ls[t], q'⟩])), some (.im (.int (0 + (i : Nat)))), some (.im (.str (sg ls[t])))] ⟨ar ++ [⟨p, ls[t], q'⟩], _, _, by rw [List.length_append, la]; rfl, fun x hx => ?_, by rw [List.map_append]; rfl⟩⟩
     rcases List.mem_append.mp hx with hx | hx
     · exact ha x hx
     · rw [List.mem_singleton.mp hx]
       exact ⟨by show p < N; omega, by show q' < N; omega, List.getElem_mem ht⟩
end
section
variable {P : Program} {w : World} {K : PySem.W.Frag} {mg : Str → Option Value} {base : Heap} {k : Nat}
abbrev sMachineWordsL : Stmt := top 10
theorem scMachineWordsL : FnScope ["_law_machine_here", "_law_most", "_law_rooms", "_law_begin", "_law_ends", "_law_arrows", "_law_here", "_law_found", "_law_turn", "_law_further", "_law_word", "_law_room", "_law_place", "_law_letter", "_law_after"] ["_law_machine_here", "_law_most"] (defScope sMachineWordsL) := ⟨rfl, rfl, rfl, by decide +kernel, rfl, by decide +kernel, by decide +kernel⟩
theorem d_law_machine_words (B : Blt mg) (T : Top3 K mg "_law_machine_words" sMachineWordsL) : Def3 P w K mg base 1 "_law_machine_words" ["_law_machine_here", "_law_most"] (spO K (fun _ => True) 2 machLF) := by
 refine mk_O T scMachineWordsL (fun _ _ _ _ _ _ us hl => len2 hl fun _ _ => rfl) rfl fun f cdv A outer s H E O hφ C => ⟨_, (ss_cons (s_unpT (h := 1000) C (e_var 0) (gq_cons 2 (gq_cons 3 (gq_cons 4 (gq_cons 5 gq_nil))))) (ss_cons (s_oneDT 6 C e_str (e_var 3)) (ss_cons (s_set 7 (e_lst a_nil)) (ss_cons (s_for C (j_new (i_r1 C B (a_cons (e_add C (e_var 1) e_int) a_nil))) (g_name (h := 1000) 8) (ss_cons (s_still 6 C (s_ext 7 C (e_comp 2 ["_law_word", "_law_room", "_law_machine_here", "_law_most", "_law_rooms", "_law_begin", "_law_ends", "_law_arrows", "_law_here", "_law_found", "_law_turn", "_law_further", "._law_word", "._law_room", "_law_place", "_law_letter", "_law_after"] C (fun _ => .of rfl (by kernel_rfl)) (i_still C 6) (g_tup (C.comp _ _) (gq_cons 0 (gq_cons 1 gq_nil))) (f_one (t_in (C.comp _ _) (e_var 1) (e_var 6))) (e_var 0)))) (ss_cons (s_newDT 9) (ss_cons (s_for C (j_still C 6) (g_tup (h := 1000) C (gq_cons 10 (gq_cons 11 gq_nil))) (ss_one (s_for C (j_new (i_tup C (e_var 5))) (g_tup (h := 1000) C (gq_cons 12 (gq_cons 13 (gq_cons 14 gq_nil)))) (ss_one (s_if (t_eq C (e_var 12) (e_var 11)) (ss_one (s_putDT 9 C (e_add C (e_var 10) (e_var 13)) (e_var 14))) ss_nil))))) (ss_one (s_movT 6 9)))))) (ss_one (s_ret (e_sortsetA C B (e_var 7)))))))), fun ds Qr hn q => ?_⟩
 obtain ⟨m, rfl, ok, q⟩ := q
 have sz := sizeLine_eq
 have fa : ∀ x : Ar, flat x.enc = true := fun x => rfl
 (repeat infer_instance)
 refine ⟨by simp only [flats, flat, Bool.true_and, Bool.and_true]; rw [flats_map (fun _ => rfl), flats_map fa]; rfl, ?_⟩
 refine ⟨_, _, rfl, rfl, .inr (tx []), .inl (m.b : Nat), rfl, rfl, ?_⟩
 (repeat infer_instance)
 refine ⟨by decide, by decide, rfl, ?_⟩
 refine forGo_rev (fun j ρ => ∃ x8 x9 x10 x11 x12 x13 x14, ρ = [some (.im m.enc), some (.im (.int 4)), some (.im (.int (m.n : Nat))), some (.im (.int (m.b : Nat))), some (.im (.tuple (m.e.map fun r => .int (r : Nat)))), some (.im (.tuple (m.a.map Ar.enc))), some (.thg (DctT ((sts m j).map Sw.key))), some (.own ((foundS m j).map fun w => .str (tx w))), x8, x9, x10, x11, x12, x13, x14]) ⟨_, _, _, _, _, _, _, rfl⟩ (fun ρ hρ => ?_) fun j d ρ N hd nx hρ => ?_
 · obtain ⟨x8, x9, x10, x11, x12, x13, x14, rfl⟩ := hρ
   (repeat infer_instance)
   refine ⟨(foundS m 5).map tx, .inr (by rw [List.map_map]; rfl), ?_, fun zs h1 h2 h3 => q zs h1 (fun z => ?_) h3⟩
   · have := len_found ok.al 5
     rw [List.length_map]; omega
   · rw [h2, List.mem_map]
     constructor
     · rintro ⟨w, hw, rfl⟩
       obtain ⟨l, a⟩ := mem_found.mp hw
       exact ⟨w, rfl, by omega, a⟩
     · rintro ⟨w, rfl, l, a⟩
       exact ⟨w, mem_found.mpr ⟨by omega, a⟩, rfl⟩
 · obtain ⟨x8, x9, x10, x11, x12, x13, x14, rfl⟩ := hρ
   obtain ⟨hj, rfl⟩ := numsD_get hd
   have hj : j < 5 := hj
   refine ⟨rfl, ?_⟩
   (repeat infer_instance)
   have l0 := len_sts ok.al j
   have lj : 6 ^ j ≤ 1296 := Nat.pow_le_pow_right (by decide) (by omega : j ≤ 4)
   rw [List.map_map]
   refine comp_flt (e := fun s : Sw => .str (tx s.1)) (keep := fun s : Sw => m.e.contains s.2) (fun s hs Y Z y z => ?_) (by simp; omega) ?_
   · (repeat infer_instance)
     refine ⟨_, in_ends (r := s.2) (by have := sts_room ok hs; have := ok.n4; omega) (fun x hx => by have := ok.e x hx; have := ok.n4; omega) ok.el, _, rfl, ?_⟩
     cases hc : m.e.contains s.2 with
     | false => exact z hc
     | true => exact ⟨_, _, rfl, rfl, y hc⟩
   · (repeat infer_instance)
     have lf := len_found ok.al j
     refine ⟨flats_map (fun _ => rfl) _, by have := List.length_filter_le (fun s : Sw => m.e.contains s.2) (sts m j); rw [List.length_map, List.nil_append, List.length_map]; omega, ?_⟩
     (repeat infer_instance)
     refine forGo_rev (fun i ρ => ∃ x8 x10 x11 x12 x13 x14, ρ = [some (.im m.enc), some (.im (.int 4)), some (.im (.int (m.n : Nat))), some (.im (.int (m.b : Nat))), some (.im (.tuple (m.e.map fun r => .int (r : Nat)))), some (.im (.tuple (m.a.map Ar.enc))), some (.thr (DctF P w ((sts m j).map Sw.key))), some (.own (List.map (fun w => .str (tx w)) (foundS m j) ++ ([] ++ List.map (fun s : Sw => .str (tx s.1)) (List.filter (fun s : Sw => m.e.contains s.2) (sts m j))))), x8, some (.thg (DctT ((((sts m j).take i).foldl (mcS m) []).map Sw.key))), x10, x11, x12, x13, x14]) ⟨_, _, _, _, _, _, rfl⟩ (fun ρ hρ => ?_) fun i d ρ N2 hd nx2 hρ => ?_
     · obtain ⟨x8, x10, x11, x12, x13, x14, rfl⟩ := hρ
       rw [List.length_map, List.length_map, List.take_length]
       refine ⟨_, rfl, nx _ ⟨x8, none, x10, x11, x12, x13, x14, ?_⟩⟩
       show _ = [_, _, _, _, _, _, _, some (DV.own ((foundS m j ++ endsAt m (sts m j)).map fun w => .str (tx w))), _, _, _, _, _, _, _]
       rw [List.map_append, endsAt, List.map_map]
       rfl
     · obtain ⟨x8, x10, x11, x12, x13, x14, rfl⟩ := hρ
       rw [List.getElem?_map, List.getElem?_map] at hd
       obtain ⟨k, hk, rfl⟩ := Option.map_eq_some_iff.mp hd
       obtain ⟨s, hs, rfl⟩ := Option.map_eq_some_iff.mp hk
       refine ⟨rfl, ?_⟩
       (repeat infer_instance)
       have hsm : s ∈ sts m j := List.mem_of_getElem? hs
       have sl : s.1.length = j := (mem_sts.mp hsm).1
       have lacc : (((sts m j).take i).foldl (mcS m) []).length ≤ 7776 := by
         have h1 := len_foldS (m := m) (l := (sts m j).take i) (acc := [])
         have h2 : ((sts m j).take i).length ≤ 1296 := by rw [List.length_take]; omega
         have h3 := Nat.mul_le_mul h2 ok.al
         simp only [List.length_nil] at h1
         omega
       have eacc : ((sts m j).take (i + 1)).foldl (mcS m) [] = m.a.foldl (mcA s) (((sts m j).take i).foldl (mcS m) []) := by rw [take_at hs, List.foldl_append]; rfl
       generalize ((sts m j).take i).foldl (mcS m) [] = acc at lacc eacc ⊢
       refine forGo_rev (fun k ρ => ∃ x12 x13 x14, ρ = [some (.im m.enc), some (.im (.int 4)), some (.im (.int (m.n : Nat))), some (.im (.int (m.b : Nat))), some (.im (.tuple (m.e.map fun r => .int (r : Nat)))), some (.im (.tuple (m.a.map Ar.enc))), some (.thr (DctF P w ((sts m j).map Sw.key))), some (.own (List.map (fun w => .str (tx w)) (foundS m j) ++ ([] ++ List.map (fun s : Sw => .str (tx s.1)) (List.filter (fun s : Sw => m.e.contains s.2) (sts m j))))), x8, some (.thg (DctT (((m.a.take k).foldl (mcA s) acc).map Sw.key))), some (.im (.str (tx s.1))), some (.im (.int (s.2 : Nat))), x12, x13, x14]) ⟨_, _, _, rfl⟩ (fun ρ hρ => ?_) fun k d ρ N3 hd nx3 hρ => ?_
       · obtain ⟨x12, x13, x14, rfl⟩ := hρ
         rw [List.length_map, List.take_length, ← eacc]
         exact nx2 _ ⟨_, _, _, _, _, _, rfl⟩
       · obtain ⟨x12, x13, x14, rfl⟩ := hρ
         rw [List.getElem?_map] at hd
         obtain ⟨x, hx, rfl⟩ := Option.map_eq_some_iff.mp hd
         have ls : ((m.a.take k).foldl (mcA s) acc).length ≤ 7782 := by
           have h1 := len_foldA (s := s) (l := m.a.take k) (acc := acc)
           rw [List.length_take] at h1
           have := ok.al
           omega
         have es : (m.a.take (k + 1)).foldl (mcA s) acc = mcA s ((m.a.take k).foldl (mcA s) acc) x := by rw [take_at hx, List.foldl_append]; rfl
         generalize (m.a.take k).foldl (mcA s) acc = cur at ls es ⊢
         refine ⟨fa x, ?_⟩
         (repeat infer_instance)
         have eb : (if false = true then !(R.o (PyData.int (x.p : Nat))).d.eqv (R.o (PyData.int (s.2 : Nat))).d else (R.o (PyData.int (x.p : Nat))).d.eqv (R.o (PyData.int (s.2 : Nat))).d) = decide (x.p = s.2) := by
           have z : some (R.o (PyData.bool (if false = true then !(R.o (PyData.int (x.p : Nat))).d.eqv (R.o (PyData.int (s.2 : Nat))).d else (R.o (PyData.int (x.p : Nat))).d.eqv (R.o (PyData.int (s.2 : Nat))).d))) = _ := eqN x.p s.2
           injection z with z
           injection z with z
           injection z
         rw [eb]
         by_cases hc : x.p = s.2
         · rw [decide_eq_true hc]
           refine ⟨_, rfl, ?_⟩
           refine ⟨_, _, rfl, rfl, _, _, rfl, rfl, _, add_tx (v := s.1) (w := [x.c]) (by simp; omega), _, _, rfl, rfl, .inr (tx (s.1 ++ [x.c])), .inl (x.q : Nat), rfl, rfl, by rw [List.length_map]; omega, ?_⟩
           have ek : addT (cur.map Sw.key) [Sum.inr (tx (s.1 ++ [x.c])), Sum.inl ((x.q : Nat) : Int)] = ((m.a.take (k + 1)).foldl (mcA s) acc).map Sw.key := by
             rw [es]
             unfold mcA
             rw [if_pos hc]
             exact addT_key (s := (s.1 ++ [x.c], x.q))
           rw [ek]
           exact nx3 _ ⟨_, _, _, rfl⟩
         · rw [decide_eq_false hc]
           have ek : (m.a.take (k + 1)).foldl (mcA s) acc = cur := by
             rw [es]
             unfold mcA
             rw [if_neg hc]
           rw [ek] at nx3
           exact nx3 _ ⟨_, _, _, rfl⟩
end
section
variable {P : Program} {w : World} {K : PySem.W.Frag} {mg : Str → Option Value} {base : Heap} {k : Nat}
abbrev sIsGrammarL : Stmt := top 11
theorem scIsGrammarL : FnScope ["_law_grammar", "_law_name", "_law_body", "_law_thing"] ["_law_grammar"] (defScope sIsGrammarL) := ⟨rfl, rfl, rfl, by decide +kernel, rfl, by decide +kernel, by decide +kernel⟩
theorem d_law_is_grammar (B : Blt mg) (d_law_whole : Def3 P w K mg base 1 "_law_whole" ["_law_found"] (spO K (fun _ => True) 1 wholeLF)) (T : Top3 K mg "_law_is_grammar" sIsGrammarL) : Def3 P w K mg base 2 "_law_is_grammar" ["_law_grammar"] (spO K (fun _ => True) 1 isGraLF) := by
 refine mk_O T scIsGrammarL (fun _ _ _ _ _ _ us hl => len1 hl fun _ => rfl) rfl fun f cdv A outer s H E O hφ C => ⟨_, (ss_cons (s_if (t_w (w_or (t_not (t_val (e_isI (T := "tuple") C B (e_var 0) B.tuple))) (w_or (t_ne C (e_len C B (a_cons (e_var 0) a_nil)) e_int) (w_or (t_not (t_val (e_call C d_law_whole (fun _ => trivial) (a_cons (e_idx C (e_var 0) e_int) a_nil)))) (w_or1 (t_lt (e_idx C (e_var 0) e_int) e_int)))))) (ss_one (s_ret e_bl)) ss_nil) (ss_cons (s_for C (j_new (i_tup C (e_idx C (e_var 0) e_int))) (g_tup (h := 1000) C (gq_cons 1 (gq_cons 2 gq_nil))) (ss_cons (s_for C (j_new (i_tup C (e_add C (e_tup (a_cons (e_var 1) a_nil)) (e_var 2)))) (g_name (h := 1000) 3) (ss_cons (s_if (t_w (w_and (t_not (t_val (e_call C d_law_whole (fun _ => trivial) (a_cons (e_var 3) a_nil)))) (w_and1 (t_w (w_or (t_not (t_val (e_isI (T := "str") C B (e_var 3) B.str))) (w_or1 (t_ne C (e_len C B (a_cons (e_var 3) a_nil)) e_int))))))) (ss_one (s_ret e_bl)) ss_nil) (ss_one (s_if (t_w (w_and (t_val (e_call C d_law_whole (fun _ => trivial) (a_cons (e_var 3) a_nil))) (w_and1 (t_not (t_chM e_int (e_var 3) (e_idx C (e_var 0) e_int)))))) (ss_one (s_ret e_bl)) ss_nil)))) (ss_one (s_if (t_not (t_val (e_call C d_law_whole (fun _ => trivial) (a_cons (e_var 1) a_nil)))) (ss_one (s_ret e_bl)) ss_nil)))) (ss_one (s_ret (e_isI (T := "tuple") C B (e_idx C (e_var 0) e_int) B.tuple))))), fun ds Qr hn q => ?_⟩
 obtain ⟨m, rfl, ok, q⟩ := q
 have sz := sizeLine_eq
 have n1 := ok.n1
 (repeat infer_instance)
 refine .inl ⟨_, rfl, _, rfl, ?_⟩
 (repeat infer_instance)
 rw [decide_eq_false (show ¬ ((m.n : Nat) : Int) < 1 by omega)]
 (repeat infer_instance)
 refine forGo_rev (fun i ρ => ∃ x1 x2 x3 : Option DV, ρ = [some (.im m.gram), x1, x2, x3]) ⟨_, _, _, rfl⟩ (fun ρ hρ => ?_) fun i d ρ N hd nx hρ => ?_
 · obtain ⟨x1, x2, x3, rfl⟩ := hρ
   (repeat infer_instance)
   exact q
 · obtain ⟨x1, x2, x3, rfl⟩ := hρ
   have hm := List.mem_of_getElem? hd
   rcases List.mem_append.mp hm with hm | hm
   · obtain ⟨x, hx, rfl⟩ := List.mem_map.mp hm
     have hp := m.nm_lt ok (ok.a x hx).1
     have hq := m.nm_lt ok (ok.a x hx).2
     refine ⟨rfl, ?_⟩
     (repeat infer_instance)
     refine .inl ⟨_, rfl, _, rfl, ?_⟩
     (repeat infer_instance)
     refine .inl ⟨_, rfl, _, rfl, ?_⟩
     (repeat infer_instance)
     rw [decide_eq_true (show ((m.nm x.p : Nat) : Int) < (m.n : Nat) by omega)]
     (repeat infer_instance)
     refine .inr ⟨_, rfl, _, rfl, ?_⟩
     (repeat infer_instance)
     refine .inr ⟨_, rfl, _, rfl, ?_⟩
     (repeat infer_instance)
     refine .inl ⟨_, rfl, _, rfl, ?_⟩
     (repeat infer_instance)
     refine .inl ⟨_, rfl, _, rfl, ?_⟩
     (repeat infer_instance)
     rw [decide_eq_true (show ((m.nm x.q : Nat) : Int) < (m.n : Nat) by omega)]
     (repeat infer_instance)
     refine .inl ⟨_, rfl, _, rfl, ?_⟩
     (repeat infer_instance)
     exact nx _ ⟨_, _, _, rfl⟩
   · obtain ⟨r, hr, rfl⟩ := List.mem_map.mp hm
     have hp := m.nm_lt ok (ok.e r hr)
     refine ⟨rfl, ?_⟩
     (repeat infer_instance)
     refine .inl ⟨_, rfl, _, rfl, ?_⟩
     (repeat infer_instance)
     refine .inl ⟨_, rfl, _, rfl, ?_⟩
     (repeat infer_instance)
     rw [decide_eq_true (show ((m.nm r : Nat) : Int) < (m.n : Nat) by omega)]
     (repeat infer_instance)
     refine .inl ⟨_, rfl, _, rfl, ?_⟩
     (repeat infer_instance)
     exact nx _ ⟨_, _, _, rfl⟩
end
section
variable {P : Program} {w : World} {K : PySem.W.Frag} {mg : Str → Option Value} {base : Heap} {k : Nat}
abbrev sLaw : Stmt := top 12
theorem scLaw : FnScope ["_law_script", "_law_deal_here", "_law_k", "_law_machine_here", "_law_grammar"] ["_law_script"] (defScope sLaw) := ⟨rfl, rfl, rfl, by decide +kernel, rfl, by decide +kernel, by decide +kernel⟩
theorem law_ok (B : Blt mg) (d_grammar_of : Def3 P w K mg base 2 "grammar_of" ["machine"] (spO K (fun _ => True) 1 gramLF)) (d_law_deal : Def3 P w K mg base 1 "_law_deal" ["_law_script", "_law_base"] (spDeal K)) (d_law_words : Def3 P w K mg base 1 "_law_words" ["_law_grammar", "_law_most"] (spO K (fun _ => True) 2 wordsGF)) (d_law_machine : Def3 P w K mg base 3 "_law_machine" ["_law_deal_here"] (spD K IsDeal 0 machF)) (d_law_machine_words : Def3 P w K mg base 1 "_law_machine_words" ["_law_machine_here", "_law_most"] (spO K (fun _ => True) 2 machLF)) (d_law_is_grammar : Def3 P w K mg base 2 "_law_is_grammar" ["_law_grammar"] (spO K (fun _ => True) 1 isGraLF)) {f₁ : Addr} {fd₁ : FuncData} (Fu : Fun K "law" "law" sLaw f₁ fd₁) : FnOk P w K mg base CX0 4 f₁ fd₁ ["_law_script"] (spLaw K) := by
 refine mk_law5 (k := 3) Fu scLaw rfl (fun f cdv A outer s H E C => ?_) (fun f cdv A outer s H E C => ?_)
 · obtain ⟨fP, fdP, G, mP, kpP, bnP⟩ := d_law_deal.ex
   exact ps_set (i := 1) (of_decide_eq_true (by kernel_rfl)) rfl (by first | exact Or.inl rfl | exact Or.inr rfl) (pe_call (k := 3) (G.mono (by decide)) (C.room ()) rfl mP kpP bnP .nil pass0 (pa_cons (pe_var (i := 0) rfl (by first | exact Or.inl rfl | exact Or.inr (Or.inl rfl) | exact Or.inr (Or.inr rfl))) (pa_cons pe_int pa_nil)))
 · have hO : ∀ j : Addr × Addr, IsDeal ((fun j : Addr × Addr => dealOb j.1 j.2) j) := fun j => dealOb_is _ _
   refine ⟨_, (ss_cons (s_for C (j_new (i_r1 C B (a_cons e_int a_nil))) (g_name (h := 1000) 2) (ss_cons (s_set 3 (e_callO 1 C d_law_machine hO a_nil)) (ss_cons (s_set 4 (e_call C d_grammar_of (fun _ => trivial) (a_cons (e_var 3) a_nil))) (ss_cons (s_if (t_w (w_or (t_not (t_val (e_call C d_law_is_grammar (fun _ => trivial) (a_cons (e_var 4) a_nil)))) (w_or1 (t_ne C (e_sortedA C B (a_cons (e_idx C (e_call C d_law_words (fun _ => trivial) (a_cons (e_var 4) (a_cons e_int a_nil))) e_int) a_nil)) (e_call C d_law_machine_words (fun _ => trivial) (a_cons (e_var 3) (a_cons e_int a_nil))))))) (ss_one (s_ret e_bl)) ss_nil) (ss_one (s_if (t_ne C (e_call C d_grammar_of (fun _ => trivial) (a_cons (e_var 3) a_nil)) (e_var 4)) (ss_one (s_ret e_bl)) ss_nil)))))) (ss_one (s_ret e_bl))), ?_⟩
   have sz := sizeLine_eq
   (repeat infer_instance)
   refine ⟨by decide, by decide, rfl, ?_⟩
   refine forGo_rev (fun _ ρ => ∃ x2 x3 x4 : Option DV, ρ = [none, some .ob, x2, x3, x4]) ⟨none, none, none, rfl⟩ (fun ρ hρ => ?_) fun j d ρ N hd nx hρ => ?_
   · obtain ⟨x2, x3, x4, rfl⟩ := hρ
     exact rfl
   · obtain ⟨x2, x3, x4, rfl⟩ := hρ
     obtain ⟨_, rfl⟩ := numsD_get hd
     refine ⟨rfl, ?_⟩
     refine ⟨rfl, rfl, rfl, fun m ok => ⟨flat_mcE m, ?_⟩⟩
     refine ⟨_, _, rfl, rfl, rfl, m, rfl, ok, flat_mcG m, ?_⟩
     refine ⟨_, _, rfl, rfl, rfl, m, rfl, ok, _, rfl, ?_⟩
     refine ⟨_, _, rfl, rfl, rfl, m, rfl, ok, fun ws wl hws => ?_⟩
     have h0 : 0 < ws.length := by have := ok.n1; omega
     have hl : ws[m.nm m.b]? = some ws[0] := by rw [Mc.nm_b, List.getElem?_eq_getElem h0]
     obtain ⟨nd, mem⟩ := hws m.b ok.b _ hl
     have e0 : (ws.map fun l => PyData.list (l.map fun w => .str (tx w)))[0]? = some (.list (ws[0].map fun w => .str (tx w))) := by rw [List.getElem?_map, List.getElem?_eq_getElem h0]; rfl
     refine ⟨_, idx_lst (i := 0) e0, (ws[0].map tx), by rw [List.map_map]; rfl, ?_, fun zs p s1 => ?_⟩
     · have := wds_few ok nd fun w hw => (mem w).mp hw
       rw [List.length_map]; omega
     refine ⟨_, _, rfl, rfl, rfl, m, rfl, ok, fun ys n2 my s2 => ?_⟩
     have e := same_words nd mem p s1 n2 my s2
     subst e
     refine ⟨_, eq_wds ok (fun z hz => (my z).mp hz), _, rfl, ?_⟩
     refine ⟨_, _, rfl, rfl, rfl, m, rfl, ok, _, _, rfl, rfl, _, eq_mcG ok, _, rfl, ?_⟩
     exact nx _ ⟨_, _, _, rfl⟩
end
end L51
namespace L51
open PySem PySem.Spec
open PyProof.Rows hiding St
open L2 L3
def DIn (K : PySem.W.Frag) (x : Str) (st : Stmt) : Prop := ∃ (f : Addr) (od an : Option Addr) (sl : Array (Option Value)) (oc kV dc pm cd ct : Value), PySem.W.nsIn K mainGlobals x = some (some (.ref f)) ∧ K.lookup f = some ⟨oc, od, .func (PySem.W.fnOf x x (defArgs st) (defBody st) (defScope st) .none kV dc pm an cd ct), sl⟩ ∧ PySem.W.codeIn K cd x = true ∧ PySem.W.keepIn K (.ref f) = true
theorem din_mk {K : PySem.W.Frag} {x : Str} {st : Stmt} {f : Addr} {od an : Option Addr} {sl : Array (Option Value)} {oc kV dc pm cd ct : Value} (a : PySem.W.nsIn K mainGlobals x = some (some (.ref f))) (l : K.lookup f = some ⟨oc, od, .func (PySem.W.fnOf x x (defArgs st) (defBody st) (defScope st) .none kV dc pm an cd ct), sl⟩) (c : PySem.W.codeIn K cd x = true) (k : PySem.W.keepIn K (.ref f) = true) : DIn K x st := ⟨f, od, an, sl, oc, kV, dc, pm, cd, ct, a, l, c, k⟩
theorem din_top {K : PySem.W.Frag} {x : Str} {st : Stmt} {h : Heap} {mg : Str → Option Value} (X : K.In h) (G : h.Ns mainGlobals mg) (D : DIn K x st) : Top3 K mg x st := by obtain ⟨f, _, _, _, _, _, _, _, _, _, a, l, c, k⟩ := D; exact ⟨f, _, fun_mk (st := st) l c k, PySem.W.mg_of X G a⟩
theorem all_mk {l : PySem.W.OpenLaw} {w : World} {K : PySem.W.Frag} {h : Heap} {mg : Str → Option Value} {fa : Addr} (X : K.In h) (G : h.Ns mainGlobals mg) (hfa : mg "law" = some (.ref fa))
   (D1 : DIn K "name_of" sNameOf)
   (D2 : DIn K "grammar_of" sGrammarOf)
   (D3 : DIn K "_law_deal" sDeal)
   (D4 : DIn K "_law_draw" sDraw)
   (D5 : DIn K "_law_whole" sWholeL)
   (D6 : DIn K "_law_letters" sLetters)
   (D7 : DIn K "_law_words" sWordsL)
   (D8 : DIn K "_law_machine" sMachineL)
   (D9 : DIn K "_law_machine_words" sMachineWordsL)
   (D10 : DIn K "_law_is_grammar" sIsGrammarL)
   (D11 : DIn K "law" sLaw)
   (z1 : PySem.W.nsIn K mainGlobals "len" = some none)
   (z2 : PySem.W.nsIn K mainGlobals "all" = some none)
   (z3 : PySem.W.nsIn K mainGlobals "any" = some none)
   (z4 : PySem.W.nsIn K mainGlobals "sorted" = some none)
   (z5 : PySem.W.nsIn K mainGlobals "min" = some none)
   (z6 : PySem.W.nsIn K mainGlobals "max" = some none)
   (z7 : PySem.W.nsIn K mainGlobals "repr" = some none)
   (z8 : PySem.W.nsIn K mainGlobals "int" = some none)
   (z9 : PySem.W.nsIn K mainGlobals "list" = some none)
   (z10 : PySem.W.nsIn K mainGlobals "tuple" = some none)
   (z11 : PySem.W.nsIn K mainGlobals "range" = some none)
   (z12 : PySem.W.nsIn K mainGlobals "set" = some none)
   (z13 : PySem.W.nsIn K mainGlobals "isinstance" = some none)
   (z14 : PySem.W.nsIn K mainGlobals "enumerate" = some none)
   (z15 : PySem.W.nsIn K mainGlobals "zip" = some none)
   (z16 : PySem.W.nsIn K mainGlobals "reversed" = some none)
   (z17 : PySem.W.nsIn K mainGlobals "str" = some none)
   (z18 : PySem.W.nsIn K mainGlobals "sum" = some none)
   (z19 : PySem.W.nsIn K mainGlobals "dict" = some none)
   (z20 : PySem.W.nsIn K mainGlobals "bool" = some none)
   : ∃ fd : FuncData, (∀ (s : Shared) (v : Value), BindsTo s fd ⟨[v], []⟩ [("_law_script", v)]) ∧ ∀ base : Heap, K.In base → base.Ns mainGlobals mg → FnOk l.prog w K mg base CX0 4 fa fd ["_law_script"] (spLaw K) := by
 have T1 := din_top X G D1
 have T2 := din_top X G D2
 have T3 := din_top X G D3
 have T4 := din_top X G D4
 have T5 := din_top X G D5
 have T6 := din_top X G D6
 have T7 := din_top X G D7
 have T8 := din_top X G D8
 have T9 := din_top X G D9
 have T10 := din_top X G D10
 have T11 := din_top X G D11
 have B : Blt mg := ⟨PySem.W.mg_none_of X G z1, PySem.W.mg_none_of X G z2, PySem.W.mg_none_of X G z3, PySem.W.mg_none_of X G z4, PySem.W.mg_none_of X G z5, PySem.W.mg_none_of X G z6, PySem.W.mg_none_of X G z7, PySem.W.mg_none_of X G z8, PySem.W.mg_none_of X G z9, PySem.W.mg_none_of X G z10, PySem.W.mg_none_of X G z11, PySem.W.mg_none_of X G z12, PySem.W.mg_none_of X G z13, PySem.W.mg_none_of X G z14, PySem.W.mg_none_of X G z15, PySem.W.mg_none_of X G z16, PySem.W.mg_none_of X G z17, PySem.W.mg_none_of X G z18, PySem.W.mg_none_of X G z19, PySem.W.mg_none_of X G z20⟩
 obtain ⟨f11, od11, an11, sl11, oc11, kV11, dc11, pm11, cd11, ct11, a11, l11, c11, k11⟩ := D11
 have e := hfa.symm.trans (PySem.W.mg_of X G a11)
 cases e
 refine ⟨PySem.W.fnOf "law" "law" (defArgs sLaw) (defBody sLaw) (defScope sLaw) .none kV11 dc11 pm11 an11 cd11 ct11, fun s v => .of_eq rfl, fun base _ _ => ?_⟩
 have e1 := d_name_of (P := l.prog) (w := w) (base := base) B T1
 have e2 := d_grammar_of B e1 T2
 have e3 := d_law_deal (P := l.prog) (w := w) (base := base) B T3
 have e4 := d_law_draw (P := l.prog) (w := w) (base := base) B T4
 have e5 := d_law_whole (P := l.prog) (w := w) (base := base) B T5
 have e6 := d_law_letters B e4 T6
 have e7 := d_law_words (P := l.prog) (w := w) (base := base) B T7
 have e8 := d_law_machine B e4 e6 T8
 have e9 := d_law_machine_words (P := l.prog) (w := w) (base := base) B T9
 have e10 := d_law_is_grammar B e5 T10
 exact law_ok B e2 e3 e7 e8 e9 e10 (fun_mk (st := sLaw) l11 c11 k11)
theorem walk {l : PySem.W.OpenLaw} {q : Program} {loose : List Str} {XP : (Str → Option Value) → Heap → Prop} {YP : World → Heap → Prop} {d : DefRec} {K : Params → PySem.W.Frag} (hn : l.most = some 63) (hdf : d.params.defaults = [])
   (hY : ∀ (w : World) (h : Heap), YP w h → (K w.params).In h)
   (F : ∀ (w : World) (mg : Str → Option Value) (fa : Addr) (h : Heap), (K w.params).In h → h.Ns mainGlobals mg → mg d.name = some (.ref fa) →
     ∃ fd : FuncData, (∀ (s : Shared) (u : Value), BindsTo s fd ⟨[u], []⟩ [("_law_script", u)]) ∧ ∀ base : Heap, (K w.params).In base → base.Ns mainGlobals mg → FnOk l.prog w (K w.params) mg base CX0 4 fa fd ["_law_script"] (spLaw (K w.params))) :
   PySem.W.WalkO q loose XP YP l.row.toRowW d [] (fun f vs => PySem.call f vs) :=
 L2.walk_of (n := 63) (k := 4) (x := "_law_script") (CX := fun _ => CX0) (sp := fun w => spLaw (K w.params)) hn (by decide) hdf ⟨rfl, by decide, by decide, rfl⟩ hY F (fun _ _ a ns hl _ hS => ⟨a, ns, rfl, hS, hl, fun _ => rfl⟩) fun _ _ _ _ _ z => z
end L51
open PySem PySem.W PyProof.Rows
set_option maxRecDepth 100000 in
set_option maxHeartbeats 0 in
theorem PySem.Challenge.cw_lostpost_k51_machines_as_grammars_holds : PySem.Challenge.rw_lostpost_k51_machines_as_grammars.Holds := by
 w_on; o_law; k_head; (case hw => w_witness2)
 k_fill
 refine L51.walk (l := PySem.Challenge.rw_lostpost_k51_machines_as_grammars) rfl rfl (fun w h Y => PySem.W.kIn_of Y) ?F
 case F =>
   intro w mg fa h KX G hmg
   refine' L51.all_mk KX G hmg (L51.din_mk ?a1 ?l1 ?c1 ?k1) (L51.din_mk ?a2 ?l2 ?c2 ?k2) (L51.din_mk ?a3 ?l3 ?c3 ?k3) (L51.din_mk ?a4 ?l4 ?c4 ?k4) (L51.din_mk ?a5 ?l5 ?c5 ?k5) (L51.din_mk ?a6 ?l6 ?c6 ?k6) (L51.din_mk ?a7 ?l7 ?c7 ?k7) (L51.din_mk ?a8 ?l8 ?c8 ?k8) (L51.din_mk ?a9 ?l9 ?c9 ?k9) (L51.din_mk ?a10 ?l10 ?c10 ?k10) (L51.din_mk ?a11 ?l11 ?c11 ?k11) ?z1 ?z2 ?z3 ?z4 ?z5 ?z6 ?z7 ?z8 ?z9 ?z10 ?z11 ?z12 ?z13 ?z14 ?z15 ?z16 ?z17 ?z18 ?z19 ?z20
   (case a1 => k_is); (case l1 => k_is); (case c1 => k_is); (case k1 => k_is)
   (case a2 => k_is); (case l2 => k_is); (case c2 => k_is); (case k2 => k_is)
   (case a3 => k_is); (case l3 => k_is); (case c3 => k_is); (case k3 => k_is)
   (case a4 => k_is); (case l4 => k_is); (case c4 => k_is); (case k4 => k_is)
   (case a5 => k_is); (case l5 => k_is); (case c5 => k_is); (case k5 => k_is)
   (case a6 => k_is); (case l6 => k_is); (case c6 => k_is); (case k6 => k_is)
   (case a7 => k_is); (case l7 => k_is); (case c7 => k_is); (case k7 => k_is)
   (case a8 => k_is); (case l8 => k_is); (case c8 => k_is); (case k8 => k_is)
   (case a9 => k_is); (case l9 => k_is); (case c9 => k_is); (case k9 => k_is)
   (case a10 => k_is); (case l10 => k_is); (case c10 => k_is); (case k10 => k_is)
   (case a11 => k_is); (case l11 => k_is); (case c11 => k_is); (case k11 => k_is)
   (case z1 => k_is)
   (case z2 => k_is)
   (case z3 => k_is)
   (case z4 => k_is)
   (case z5 => k_is)
   (case z6 => k_is)
   (case z7 => k_is)
   (case z8 => k_is)
   (case z9 => k_is)
   (case z10 => k_is)
   (case z11 => k_is)
   (case z12 => k_is)
   (case z13 => k_is)
   (case z14 => k_is)
   (case z15 => k_is)
   (case z16 => k_is)
   (case z17 => k_is)
   (case z18 => k_is)
   (case z19 => k_is)
   (case z20 => k_is)

