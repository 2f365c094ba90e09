import PyProof.Rows.All
import Wide.All
import OpenK.AllK
import Wide.FinOn
import Lean
import PyProof.EqAt
import PyProof.EqKinds
import PyProof.TupleCall
import PyProof.StationsW
import PyProof.ExcClass2
import PyProof.ExcBaseAll.ValueError
import PyProof.InstStoreFacts
import PyProof.RulesAs
import PyProof.NsDelKeeps
import PyProof.P3Eq
import PyProof.P3In
import PyProof.ReprRoads
import PyProof.StrWalks
import PyProof.ListRange
import PyProof.ListStr
import PyProof.ConsumeWalk
import PyProof.MinMaxWalk
import PyProof.NeData
import PyProof.SliceStr2
import PyProof.Rows.SortStr
import PyProof.Rows.StrJoin2
import PyProof.Rows.SeqMore
import PyProof.SeqI3
import PyProof.StrLawsIn
import PyProof.ReprBulk
import PyProof.ListMulRoad
import PyProof.StrOps2
import PySem.Challenge.RW_lostpost_k68_sayings_as_texts
import PyProof.ExcAttrAll.ValueError
import PyProof.ExcArgs
import KE.KIsAll
import PyProof.Rows.SortShellK
import KE.KSortTup
import PyProof.Rows.SetFrom
import PyProof.CollectIter
import PyProof.CollectStr
import PyProof.FactsAll.set
import PyProof.Rows.StrStrike
import KE.KDictOf
import PyProof.AttrMissHeap
import PyProof.DictWalks
import KE.KDictLaws
import PyProof.Draws
import KE.KRevIter
import PyProof.EnumStmt
import PyProof.JoinWalk
import KE.BitLaws
import PyProof.TupleOfSeq
import PySem.SetTable
import PyProof.SetScanFacts
import PyProof.TupleKey
import PyProof.IsRules
import PyProof.StrCalls6
import PyProof.StrLawsReplace
import PyProof.ToksMono
set_option Elab.async false
set_option linter.all false
set_option maxRecDepth 100000
namespace L2
open PySem PySem.Spec PyProof.Rows
abbrev Key := Sum Int Str
def keyIs : Key → Value → Bool
 | .inl k, v => Value.isInt k v
 | .inr x, v => Value.isStrOf x v
def keyH (w : World) : Key → Int
 | .inl k => hashInt k
 | .inr x => hashStr w x
theorem keyIs_shape : ∀ {k : Key} {v : Value}, keyIs k v = true → (∃ i t, k = Sum.inl i ∧ v = Value.int i t) ∨ (∃ x t, k = Sum.inr x ∧ v = Value.str x t)
 | .inl i, v, h => by
   obtain ⟨t, e⟩ := Value.isInt_shape (k := i) (v := v) h
   exact .inl ⟨i, t, rfl, e⟩
 | .inr x, v, h => by
   obtain ⟨t, e⟩ := Value.isStrOf_shape (x := x) (v := v) h
   exact .inr ⟨x, t, rfl, e⟩
theorem keyIs_int (i : Int) (t : Tok) : keyIs (.inl i) (.int i t) = true := by simp [keyIs, Value.isInt]
theorem keyIs_str (x : Str) (t : Tok) : keyIs (.inr x) (.str x t) = true := by simp [keyIs, Value.isStrOf]
theorem key_ll (a b : Int) : decide ((Sum.inl a : Key) = Sum.inl b) = (a == b) := by
 by_cases e : a = b
 · subst e; simp
 · have h : ¬ (Sum.inl a : Key) = Sum.inl b := fun q => e (Sum.inl.inj q)
   rw [decide_eq_false h]
   exact (beq_eq_false_iff_ne.mpr e).symm
theorem key_rr (a b : Str) : decide ((Sum.inr a : Key) = Sum.inr b) = decide (a = b) := by
 by_cases e : a = b
 · subst e; simp
 · have h : ¬ (Sum.inr a : Key) = Sum.inr b := fun q => e (Sum.inr.inj q)
   rw [decide_eq_false h, decide_eq_false e]
theorem key_lr (a : Int) (b : Str) : decide ((Sum.inl a : Key) = Sum.inr b) = false := decide_eq_false (fun q => nomatch q)
theorem key_rl (a : Str) (b : Int) : decide ((Sum.inr a : Key) = Sum.inl b) = false := decide_eq_false (fun q => nomatch q)
def mixKind (prog : Program) (w : World) : PySem.KeyKind prog w Key where
 is := keyIs
 hash := keyH w
 inj := fun v a b ha hb => by
   rcases keyIs_shape ha with ⟨i, t, rfl, rfl⟩ | ⟨x, t, rfl, rfl⟩
   · rcases keyIs_shape hb with ⟨j, u, rfl, e⟩ | ⟨y, u, rfl, e⟩
     · injection e with e1 _; rw [e1]
     · exact nomatch e
   · rcases keyIs_shape hb with ⟨j, u, rfl, e⟩ | ⟨y, u, rfl, e⟩
     · exact nomatch e
     · injection e with e1 _; rw [e1]
 byValue := fun k v h => by
   rcases keyIs_shape h with ⟨i, t, rfl, rfl⟩ | ⟨x, t, rfl, rfl⟩ <;> rfl
 pyHash := fun hv h => by
   rcases keyIs_shape hv with ⟨i, t, rfl, rfl⟩ | ⟨x, t, rfl, rfl⟩
   · exact wpAny_pyHash_int h
   · exact wpAny_pyHash_str h
 eqBool := fun hu hv h => by
   rcases keyIs_shape hu with ⟨i, t, rfl, rfl⟩ | ⟨x, t, rfl, rfl⟩
   · rcases keyIs_shape hv with ⟨j, u, rfl, rfl⟩ | ⟨y, u, rfl, rfl⟩
     · rw [key_ll] at h; exact wpAny_eqBool_int h
     · rw [key_lr] at h; exact SeqAt.EqAt.int_str i t y u _ _ _ _ h
   · rcases keyIs_shape hv with ⟨j, u, rfl, rfl⟩ | ⟨y, u, rfl, rfl⟩
     · rw [key_rl] at h; exact SeqAt.EqAt.str_int x t j u _ _ _ _ h
     · rw [key_rr] at h; exact wpAny_eqBool_str h
 «strs» := fun k x t v h => by
   rcases keyIs_shape h with ⟨i, u, rfl, e⟩ | ⟨y, u, rfl, e⟩
   · exact nomatch e
   · injection e with e1 _
     subst e1
     cases v <;> rfl
theorem mixKind_int (prog : Program) (w : World) (i : Int) (t : Tok) : (mixKind prog w).is (.inl i) (.int i t) = true := keyIs_int i t
theorem mixKind_str (prog : Program) (w : World) (x : Str) (t : Tok) : (mixKind prog w).is (.inr x) (.str x t) = true := keyIs_str x t
end L2
namespace L2
open PySem PySem.Spec PyProof.Rows
inductive V where
 | non | bl (b : Bool) | int (i : Int) | str (x : Str) | byt (b : Array UInt8) | flt (b : UInt64) | ref (a : Addr) | ty (n : String)
 deriving DecidableEq
def RelV : V → Value → Prop
 | .non, u => u = Value.none
 | .bl b, u => u = Value.bool b
 | .int i, u => ∃ t, u = Value.int i t
 | .str x, u => ∃ t, u = Value.str x t
 | .byt b, u => ∃ t, u = Value.bytes b t
 | .flt b, u => ∃ t, u = Value.float b t
 | .ref a, u => u = Value.ref a
 | .ty n, u => u = Value.type n
abbrev Vals : List V → List Value → Prop := Paired RelV
theorem Vals.length {xs : List V} {us : List Value} (r : Vals xs us) : xs.length = us.length := Paired.length r
theorem Vals.get : ∀ {xs : List V} {us : List Value} {i : Nat} {x : V}, Vals xs us → xs[i]? = some x → ∃ u, us[i]? = some u ∧ RelV x u
 | _, _, _, _, .nil, e => by simp at e
 | _, _, 0, _, .cons r _, e => by simp at e; subst e; exact ⟨_, rfl, r⟩
 | _, _, i + 1, x, .cons _ t, e => by
   obtain ⟨u, h1, h2⟩ := Vals.get (i := i) (x := x) t (by simpa using e)
   exact ⟨u, by simpa using h1, h2⟩
theorem Vals.append : ∀ {xs ys : List V} {us ws : List Value}, Vals xs us → Vals ys ws → Vals (xs ++ ys) (us ++ ws)
 | _, _, _, _, .nil, s => s
 | _, _, _, _, .cons r t, s => .cons r (Vals.append t s)
theorem Vals.take : ∀ {xs : List V} {us : List Value} (n : Nat), Vals xs us → Vals (xs.take n) (us.take n)
 | _, _, 0, _ => .nil
 | _, _, _ + 1, .nil => .nil
 | _, _, n + 1, .cons r t => .cons r (Vals.take n t)
theorem Vals.drop : ∀ {xs : List V} {us : List Value} (n : Nat), Vals xs us → Vals (xs.drop n) (us.drop n)
 | _, _, 0, r => r
 | _, _, _ + 1, .nil => .nil
 | _, _, n + 1, .cons _ t => Vals.drop n t
def RelO : Option V → Option Value → Prop
 | some v, some u => RelV v u
 | none, none => True
 | _, _ => False
def KV {κ : Type} : List (κ × V) → List (κ × Value) → Prop := Paired fun (p : κ × V) (q : κ × Value) => p.1 = q.1 ∧ RelV p.2 q.2
def kV : Key → V
 | .inl i => .int i
 | .inr x => .str x
inductive HO where
   | lst (xs : List V)
   | tup (xs : List V)
   | dK (kvs : List (Key × V)) | dT (kvs : List (List Key × V))
   | set (S : Int → Bool) (n : Nat)
   | ins (C dx : Addr) (fs : List (Str × V))
   | own (x : Addr)
   | xd (fs : List (Str × V))
   | met (f x : Addr)
   | rng (lo hi : Int)
   | frz (o : Obj) (u : HO)
   | tbl (ps : Array Value)
   | ext (φ : Heap → Prop)
abbrev Hp := Addr → Option HO
def upd (H : Hp) (a : Addr) (o : HO) : Hp := fun b => if b = a then some o else H b
theorem upd_same {H : Hp} {a : Addr} {o : HO} : upd H a o a = some o := by unfold upd; rw [if_pos rfl]
theorem upd_ne {H : Hp} {a b : Addr} {o : HO} (h : b ≠ a) : upd H a o b = H b := by unfold upd; rw [if_neg h]
theorem ne_of {H : Hp} {a b : Addr} {o u : HO} (h : H a = some o) (h' : H b = some u) (d : o ≠ u) : a ≠ b := by
 intro e; subst e; rw [h] at h'; exact d (Option.some.inj h')
theorem ne_of_none {H : Hp} {a b : Addr} {o : HO} (h : H a = some o) (h' : H b = none) : a ≠ b := by
 intro e; subst e; rw [h] at h'; cases h'
section
variable (P : Program) (w : World)
def ObjOk (H : Hp) (h : Heap) (a : Addr) : HO → Prop
 | .lst xs => xs.length ≤ sizeLine ∧ ∃ (its : List Value) (n : Nat), Vals xs its ∧ h.get? a = some { cls := .type "list", data := .seq its.toArray n }
 | .tup xs => xs.length ≤ sizeLine ∧ ∃ its : List Value, Vals xs its ∧ IsTup h a its.toArray
 | .dK kvs => kvs.length ≤ sizeLine ∧ (a == sysModules) = false ∧ ∃ vs, KV kvs vs ∧ h.DictOf (mixKind P w) a vs
 | .dT kvs => kvs.length ≤ sizeLine ∧ (a == sysModules) = false ∧ ∃ xs : List (List Key × Addr × Value),
     Paired (fun (p : List Key × V) (q : List Key × Addr × Value) => p.1 = q.1 ∧ H q.2.1 = some (.tup (p.1.map kV)) ∧ RelV p.2 q.2.2) kvs xs ∧
     ∃ o es ep, h.get? a = some o ∧ o.ExactDict ∧ o.data = .dict es ep ∧ es.toList = xs.map (entryOfKey (tupleKind (mixKind P w))) ∧ (xs.map (·.1)).Nodup
 | .set S n => h.SetOf (intKind P w) a S n
 | .ins C dx fs => H dx = some (.own a) ∧ fs.length ≤ 1000 ∧ dx ≠ a ∧ h.get? a = some (PySem.W.instObj C dx) ∧
     ∃ mA, h.Ns1 dx mA ∧ (∀ f, RelO (fs.lookup f) (mA f)) ∧ PySem.Within mA (fs.map (·.1))
 | .own _ => ∃ o, h.get? a = some o
 | .xd fs => ∃ mA, h.Ns1 a mA ∧ ∀ f, RelO (fs.lookup f) (mA f)
 | .rng lo hi => ∃ t u v, h.get? a = some { cls := .type "range", data := .fields #[.int lo t, .int hi u, .int 1 v] }
 | .frz o u => h.get? a = some o ∧ ObjOk H h a u
 | .tbl ps => h.get? a = some { cls := .none, data := .fields ps }
 | .met f x => h.get? a = some (PySem.W.methodObj (.ref f) (.ref x))
 | .ext φ => φ h ∧ (∃ o, h.get? a = some o) ∧ ∀ h1 h2 : Heap, φ h1 → (∀ o, h1.get? a = some o → h2.get? a = some o) → φ h2
def HOk (H : Hp) (h : Heap) : Prop := ∀ a o, H a = some o → ObjOk P w H h a o
end
section
variable {P : Program} {w : World} {H H' : Hp} {h h' : Heap} {a : Addr} {o : HO}
theorem ObjOk.lt (x : ObjOk P w H h a o) : a < h.objs.size := by
 cases o with
 | lst xs => obtain ⟨_, _, _, _, e⟩ := x; exact Heap.lt_size e
 | tup xs => obtain ⟨_, _, _, p⟩ := x; exact p.lt
 | dK kvs => obtain ⟨_, _, _, _, o, _, _, e, _⟩ := x; exact Heap.lt_size e
 | dT kvs => obtain ⟨_, _, _, _, o, _, _, e, _⟩ := x; exact Heap.lt_size e
 | set S n => obtain ⟨o, _, _, _, e, _⟩ := x; exact Heap.lt_size e
 | ins C dx fs => obtain ⟨_, _, _, e, _⟩ := x; exact Heap.lt_size e
 | own y => obtain ⟨_, e⟩ := x; exact Heap.lt_size e
 | xd fs => obtain ⟨_, ⟨_, _, _, e, _⟩, _⟩ := x; exact Heap.lt_size e
 | rng lo hi => obtain ⟨_, _, _, e⟩ := x; exact Heap.lt_size e
 | frz ob u => obtain ⟨e, _⟩ := x; exact Heap.lt_size e
 | tbl ps => exact Heap.lt_size (show h.get? a = some _ from x)
 | met f y => exact Heap.lt_size (show h.get? a = some _ from x)
 | ext φ => obtain ⟨_, ⟨_, e⟩, _⟩ := x; exact Heap.lt_size e
theorem Paired.mapP {α β : Type} {F G : α → β → Prop} : ∀ {l₁ : List α} {l₂ : List β}, Paired F l₁ l₂ → (∀ a b, F a b → G a b) → Paired G l₁ l₂
 | _, _, .nil, _ => .nil
 | _, _, .cons r t, f => .cons (f _ _ r) (Paired.mapP t f)
theorem ObjOk.stay (x : ObjOk P w H h a o) (k : ∀ b u, (b = a ∨ H b = some (.own a)) → h.get? b = some u → h'.get? b = some u)
   (ho : ∀ b, H b = some (.own a) → H' b = some (.own a)) (ht : ∀ b xs, H b = some (.tup xs) → H' b = some (.tup xs)) : ObjOk P w H' h' a o := by
 induction o with
 | lst xs => obtain ⟨z, its, n, r, e⟩ := x; exact ⟨z, its, n, r, k _ _ (.inl rfl) e⟩
 | tup xs => obtain ⟨z, its, r, ob, e, c⟩ := x; exact ⟨z, its, r, ob, k _ _ (.inl rfl) e, c⟩
 | dK kvs => obtain ⟨z, y, vs, r, ob, es, ep, e, c⟩ := x; exact ⟨z, y, vs, r, ob, es, ep, k _ _ (.inl rfl) e, c⟩
 | dT kvs =>
   obtain ⟨z, y, xs, r, ob, es, ep, e, c⟩ := x
   exact ⟨z, y, xs, Paired.mapP r fun p q z => ⟨z.1, ht _ _ z.2.1, z.2.2⟩, ob, es, ep, k _ _ (.inl rfl) e, c⟩
 | set S n => obtain ⟨ob, es, ep, t, e, c⟩ := x; exact ⟨ob, es, ep, t, k _ _ (.inl rfl) e, c⟩
 | ins C dx fs =>
   obtain ⟨d, z, ne, e, mA, ⟨od, es, ep, e2, c⟩, r⟩ := x
   exact ⟨ho _ d, z, ne, k _ _ (.inl rfl) e, mA, ⟨od, es, ep, k _ _ (.inr d) e2, c⟩, r⟩
 | own y => obtain ⟨ob, e⟩ := x; exact ⟨ob, k _ _ (.inl rfl) e⟩
 | xd fs => obtain ⟨mA, ⟨od, es, ep, e, c⟩, r⟩ := x; exact ⟨mA, ⟨od, es, ep, k _ _ (.inl rfl) e, c⟩, r⟩
 | rng lo hi => obtain ⟨t, u, v, e⟩ := x; exact ⟨t, u, v, k _ _ (.inl rfl) e⟩
 | frz ob u ih => obtain ⟨e, q⟩ := x; exact ⟨k _ _ (.inl rfl) e, ih q⟩
 | tbl ps =>
   have e : h.get? a = some { cls := .none, data := .fields ps } := x
   show h'.get? a = some { cls := .none, data := .fields ps }
   exact k a _ (.inl rfl) e
 | met f y =>
   have e : h.get? a = some (PySem.W.methodObj (.ref f) (.ref y)) := x
   show h'.get? a = some (PySem.W.methodObj (.ref f) (.ref y))
   exact k a _ (.inl rfl) e
 | ext φ => obtain ⟨p, ⟨o, e⟩, st⟩ := x; exact ⟨st _ _ p fun o q => k _ _ (.inl rfl) q, ⟨o, k _ _ (.inl rfl) e⟩, st⟩
theorem HOk.lt (x : HOk P w H h) (e : H a = some o) : a < h.objs.size := (x a o e).lt
theorem HOk.fresh (x : HOk P w H h) (e : h.objs.size ≤ a) : H a = none := by
 cases q : H a with
 | none => rfl
 | some u => exact absurd (Nat.lt_of_lt_of_le (x.lt q) e) (Nat.lt_irrefl _)
theorem HOk.kept (x : HOk P w H h) (k : ∀ b u, h.get? b = some u → h'.get? b = some u) : HOk P w H h' := fun a o e =>
 (x a o e).stay (fun b u _ q => k b u q) (fun _ q => q) fun _ _ q => q
theorem HOk.laid (x : HOk P w H h) (k : ∀ b u, h.get? b = some u → h'.get? b = some u) (hp : h.objs.size ≤ a) (new : ObjOk P w (upd H a o) h' a o) : HOk P w (upd H a o) h' := fun b u e => by
 have hn := x.fresh hp
 by_cases hb : b = a
 · subst hb; rw [upd_same] at e; cases e; exact new
 · rw [upd_ne hb] at e
   exact (x b u e).stay (fun c v _ q => k c v q) (fun c q => by rw [upd_ne (ne_of_none q hn)]; exact q) fun c xs q => by rw [upd_ne (ne_of_none q hn)]; exact q
end
def Rd (H : Hp) (a : Addr) (u : HO) : Prop := H a = some u ∨ ∃ o, H a = some (.frz o u)
theorem Rd.of {H : Hp} {a : Addr} {u : HO} (h : H a = some u) : Rd H a u := .inl h
theorem Rd.ok {P : Program} {w : World} {H : Hp} {h : Heap} {a : Addr} {u : HO} (r : Rd H a u) (x : HOk P w H h) : ObjOk P w H h a u := by
 rcases r with r | ⟨o, r⟩
 · exact x a u r
 · obtain ⟨_, q⟩ := x a _ r
   exact q
def Mut : Option HO → Prop
 | some (.lst _) => True
 | some (.dK _) => True
 | some (.dT _) => True
 | some (.set _ _) => True
 | some (.ins _ _ _) => True
 | some (.ext _) => True
 | _ => False
section
variable {P : Program} {w : World} {H : Hp} {h h' : Heap} {x e : Addr} {o' : HO}
theorem HOk.write (ok : HOk P w H h) (mu : Mut (H x)) (he : e = x ∨ H e = some (.own x)) (k : ∀ b u, b ≠ e → h.get? b = some u → h'.get? b = some u) (heo : ∃ u, h'.get? e = some u)
   (new : ObjOk P w (upd H x o') h' x o') : HOk P w (upd H x o') h' := fun b u q => by
 have nown : ∀ c y, H c = some (.own y) → c ≠ x := fun c y r z => by subst z; rw [r] at mu; exact mu
 have ntup : ∀ c xs, H c = some (.tup xs) → c ≠ x := fun c xs r z => by subst z; rw [r] at mu; exact mu
 by_cases hb : b = x
 · subst hb; rw [upd_same] at q; cases q; exact new
 · rw [upd_ne hb] at q
   by_cases hbe : b = e
   · have q' : H b = some (.own x) := by
       rcases he with z | z
       · exact absurd (hbe.trans z) hb
       · rw [hbe]; exact z
     rw [q] at q'; cases q'
     obtain ⟨v, hv⟩ := heo
     exact ⟨v, by rw [hbe]; exact hv⟩
   · refine (ok b u q).stay (fun c v hc r => k c v ?_ r) (fun c r => by rw [upd_ne (nown c b r)]; exact r) fun c xs r => by rw [upd_ne (ntup c xs r)]; exact r
     rcases hc with rfl | hc
     · exact hbe
     · rintro rfl
       rcases he with z | z
       · exact nown c b hc z
       · rw [hc] at z; cases z; exact hb rfl
end
structure Un (fs ex : List Addr) (H H' : Hp) (h h' : Heap) : Prop where
 keep : ∀ b o, h.get? b = some o → H b = none → b ∉ fs → b ∉ ex → h'.get? b = some o
 slot : ∀ b o, h.get? b = some o → H b = none → b ∈ fs → b ∉ ex → ∃ sl, h'.get? b = some { o with slots := sl }
 free : ∀ b o, h.get? b = some o → H b = none → b ∉ ex → H' b = none
 there : ∀ b o, h.get? b = some o → b ∉ ex → ∃ o', h'.get? b = some o'
 tups : ∀ b xs, H b = some (.tup xs) → H' b = some (.tup xs)
 frzs : ∀ b o u, H b = some (.frz o u) → H' b = some (.frz o u)
 tbls : ∀ b ps, H b = some (.tbl ps) → ∃ more, H' b = some (.tbl (ps ++ more))
section
variable {fs fs' ex ex' : List Addr} {H H1 H2 : Hp} {h h1 h2 h' : Heap} {a x e : Addr} {o : HO}
theorem Un.any (u : Un fs ex H H1 h h1) {b : Addr} {ob : Obj} (q : h.get? b = some ob) (n : H b = none) (hx : b ∉ ex) : ∃ sl, h1.get? b = some { ob with slots := sl } := by
 by_cases hb : b ∈ fs
 · exact u.slot b ob q n hb hx
 · exact ⟨ob.slots, u.keep b ob q n hb hx⟩
theorem Un.kept (k : ∀ b u, h.get? b = some u → h'.get? b = some u) : Un fs ex H H h h' :=
 ⟨fun b ob q _ _ _ => k b ob q, fun b ob q _ _ _ => ⟨ob.slots, k b ob q⟩, fun _ _ _ n _ => n, fun b ob q _ => ⟨ob, k b ob q⟩, fun _ _ q => q, fun _ _ _ q => q, fun _ ps q => ⟨#[], by rw [q]; simp⟩⟩
theorem Un.refl : Un fs ex H H h h := Un.kept fun _ _ q => q
theorem Un.laid (k : ∀ b u, h.get? b = some u → h'.get? b = some u) (hp : h.objs.size ≤ a) (hn : H a = none) : Un fs ex H (upd H a o) h h' where
 keep := fun b u q _ _ _ => k b u q
 slot := fun b u q _ _ _ => ⟨u.slots, k b u q⟩
 free := fun b u q n _ => by rw [upd_ne (Nat.ne_of_lt (Nat.lt_of_lt_of_le (Heap.lt_size q) hp))]; exact n
 there := fun b u q _ => ⟨u, k b u q⟩
 tups := fun b xs q => by rw [upd_ne (ne_of_none q hn)]; exact q
 frzs := fun b u xs q => by rw [upd_ne (ne_of_none q hn)]; exact q
 tbls := fun b ps q => ⟨#[], by rw [upd_ne (ne_of_none q hn), q]; simp⟩
theorem Un.write (mu : Mut (H x)) (he : e = x ∨ H e = some (.own x)) (k : ∀ b u, b ≠ e → h.get? b = some u → h'.get? b = some u) (heo : ∃ u, h'.get? e = some u) : Un fs ex H (upd H x o) h h' := by
 have hx : ∀ b, H b = none → b ≠ x := fun b n z => by subst z; rw [n] at mu; exact mu
 have hb : ∀ b, H b = none → b ≠ e := fun b n z => by
   subst z
   rcases he with r | r
   · exact hx b n r
   · rw [n] at r; cases r
 have hm : ∀ b u, H b = some u → ¬ Mut (some u) → b ≠ x := fun b u q nm z => by subst z; rw [q] at mu; exact nm mu
 refine ⟨fun b u q n _ _ => k b u (hb b n) q, fun b u q n _ _ => ⟨u.slots, k b u (hb b n) q⟩, fun b u q n _ => by rw [upd_ne (hx b n)]; exact n, fun b u q _ => ?_,
   fun b xs q => by rw [upd_ne (hm b _ q fun z => z)]; exact q, fun b u xs q => by rw [upd_ne (hm b _ q fun z => z)]; exact q, fun b ps q => ⟨#[], by rw [upd_ne (hm b _ q fun z => z), q]; simp⟩⟩
 by_cases hbe : b = e
 · subst hbe; exact heo
 · exact ⟨u, k b u hbe q⟩
end
def trk (h : Heap) (H : Hp) : List Addr := (List.range h.objs.size).filter fun a => (H a).isSome
def hidT (h : Heap) (H : Hp) : Heap := PySem.W.hideAll h (trk h H)
theorem hidT_size (h : Heap) (H : Hp) : (hidT h H).objs.size = h.objs.size := PySem.W.hideAll_size _ _
theorem hidT_get {h : Heap} {H : Hp} {b : Addr} {o : Obj} (e : h.get? b = some o) (n : H b = none) : (hidT h H).get? b = some o :=
 PySem.W.hideAll_get _ e fun hm => by
   have q : (H b).isSome = true := (List.mem_filter.mp hm).2
   rw [n] at q; simp at q
theorem of_hidT {h : Heap} {H : Hp} {b : Addr} {o : Obj} (e : (hidT h H).get? b = some o) : h.get? b = some o ∧ H b = none := by
 have e' : h.get? b = some o := PySem.W.of_hideAll (trk h H) e
 refine ⟨e', ?_⟩
 cases q : H b with
 | none => rfl
 | some x =>
   have hm : b ∈ trk h H := List.mem_filter.mpr ⟨List.mem_range.mpr (Heap.lt_size e'), by simp [q]⟩
   have z : (hidT h H).get? b = none := PySem.W.hideAll_none (trk h H) hm
   rw [z] at e; cases e
end L2
namespace L2
open PySem PySem.Spec PyProof.Rows
structure Mod (K : PySem.W.Frag) (mg : Str → Option Value) (base : Heap) : Prop where
 kin : K.In base
 glob : base.Ns mainGlobals mg
 blt : ∃ mb, base.Ns builtinsNs mb ∧ ∀ x : Str, x ≠ "__name__" → mb x = bootBuiltins x
 nolimit : base.NoLimit
structure Cx where
 prog : Program
 w : World
 K : PySem.W.Frag
 mg : Str → Option Value
 base : Heap
 A : Around
 N : List Str
 s₀ : Shared
 H₀ : Hp
 env : Env
 outer : List Env
 stack : List Env
 ex : List Addr
 fn : Str → Bool
 calm : Bool
 pn : List (Addr × Obj)
 xe : Value → Shared → Prop
def frs (l : List Env) : List Addr := l.filterMap (·.frame)
abbrev Cx.fs (X : Cx) : List Addr := frs X.outer
def Vis (sc : Scope) (x : Str) : Prop := sc.names.lookup x = some .local ∨ sc.names.lookup x = some .cell ∨ sc.names.lookup x = some .free
def Loc (sc : Scope) (x : Str) : Prop := sc.names.lookup x = some .local ∨ sc.names.lookup x = some .cell
def Look (env : Env) (h : Heap) (m : Str → Option Value) (x : Str) (u : Value) : Prop :=
 (env.kindOf x = some .local ∧ m x = some u) ∨ ((env.kindOf x = some .cell ∨ env.kindOf x = some .free) ∧ ∃ c, env.cells.lookup x = some c ∧ h.IsCell c (some u))
structure Cx.Ok (X : Cx) : Prop where
 mod : Mod X.K X.mg X.base
 kind : X.env.scope.kind = .function
 glob : X.env.globals = mainGlobals
 blt : X.env.builtins = builtinsNs
 above : X.s₀.heap.objs.size ≤ X.env.locals
 inj : ∀ x y c, X.env.cells.lookup x = some c → X.env.cells.lookup y = some c → x = y
 has : ∀ x, (X.env.kindOf x = some .cell ∨ X.env.kindOf x = some .free) → ∃ c, X.env.cells.lookup x = some c
 cab : ∀ x c, X.fn x = true → X.env.cells.lookup x = some c → X.s₀.heap.objs.size ≤ c
 hd : X.calm = true → X.A.handled = none
 frames : X.A.frames = some X.stack
 stk : X.stack = X.outer ∨ (X.stack = X.env :: X.outer ∧ X.env.frame = some X.env.locals)
 exf : ∀ b ∈ X.ex, b ≠ X.env.locals ∧ ∀ x c, X.env.cells.lookup x = some c → c ≠ b
 bs : ∀ b o, X.base.get? b = some o → X.s₀.heap.get? b = some o ∧ X.H₀ b = none
 bsz : X.base.objs.size ≤ X.s₀.heap.objs.size
 noex : ∀ b o, X.base.get? b = some o → b ∉ X.ex
 exfs : ∀ b ∈ X.ex, b ∉ X.fs
 funs : X.s₀.heap.FunFrames X.base X.outer
 frf : ∀ b ∈ X.fs, X.H₀ b = none
structure Inv (X : Cx) (pins : List (Addr × Obj)) (σ : List (Option V)) (H : Hp) (s : Shared) : Prop where
 ok : X.Ok
 os : s.os = X.s₀.os
 bare : AllBare s.gens
 base : Un X.fs X.ex X.H₀ H X.s₀.heap s.heap
 loc : ∃ m, s.heap.Ns X.env.locals m ∧ ∀ (i : Nat) (x : Str) (v : V), X.N[i]? = some x → σ[i]? = some (some v) → Vis X.env.scope x → ∃ u, RelV v u ∧ Look X.env s.heap m x u
 cell : ∀ x c, X.env.cells.lookup x = some c → ∃ v, s.heap.IsCell c v
 free : H X.env.locals = none
 freeC : ∀ x c, X.env.cells.lookup x = some c → H c = none
 pin : ∀ p ∈ X.pn ++ pins, s.heap.get? p.1 = some p.2 ∧ H p.1 = none ∧ p.1 ≠ X.env.locals ∧ p.1 ∉ X.fs ∧ ∀ v, p.2.data ≠ .cell v
 hok : HOk X.prog X.w H s.heap
 len : σ.length = X.N.length
section
variable {X : Cx} {pins : List (Addr × Obj)} {σ : List (Option V)} {H H' : Hp} {s : Shared} {h' : Heap}
theorem Cx.Ok.nofr (ok : X.Ok) {b : Addr} {o : Obj} (e : X.base.get? b = some o) : b ∉ X.fs := fun hb => by
 have := (ok.funs.mem hb).1
 rw [e] at this; cases this
theorem Inv.bs (I : Inv X pins σ H s) : ∀ b o, X.base.get? b = some o → s.heap.get? b = some o ∧ H b = none := fun b o e =>
 ⟨I.base.keep b o (I.ok.bs b o e).1 (I.ok.bs b o e).2 (I.ok.nofr e) (I.ok.noex b o e), I.base.free b o (I.ok.bs b o e).1 (I.ok.bs b o e).2 (I.ok.noex b o e)⟩
theorem Inv.bk (I : Inv X pins σ H s) : ∀ b o, X.base.get? b = some o → s.heap.get? b = some o := fun b o e => (I.bs b o e).1
theorem Inv.mod (I : Inv X pins σ H s) : Mod X.K X.mg X.base := I.ok.mod
theorem Inv.kIn (I : Inv X pins σ H s) : X.K.In s.heap := I.ok.mod.kin.keeps I.bk
theorem Inv.lt (I : Inv X pins σ H s) : X.env.locals < s.heap.objs.size := let ⟨_, hn, _⟩ := I.loc; hn.lt
theorem Inv.sz (I : Inv X pins σ H s) : X.s₀.heap.objs.size ≤ s.heap.objs.size := Nat.le_trans I.ok.above (Nat.le_of_lt I.lt)
theorem Inv.nofs (I : Inv X pins σ H s) {a : Addr} (h : s.heap.objs.size ≤ a) : a ∉ X.fs := fun hb => by
 obtain ⟨_, o, ho, _⟩ := I.ok.funs.mem hb
 exact absurd (Nat.lt_of_lt_of_le (Heap.lt_size ho) (Nat.le_trans I.sz h)) (Nat.lt_irrefl _)
theorem Inv.cne (I : Inv X pins σ H s) : ∀ x c, X.env.cells.lookup x = some c → c ≠ X.env.locals := fun x c e z => by
 obtain ⟨v, o, ho, hd⟩ := I.cell x c e
 obtain ⟨m, ⟨o', es, ep, ho', hd', _⟩, _⟩ := I.loc
 rw [z, ho'] at ho; cases ho; rw [hd'] at hd; cases hd
theorem Inv.funs (I : Inv X pins σ H s) : s.heap.FunFrames X.base X.outer := by
 have all : ∀ (l : List Env), (∀ b ∈ frs l, b ∈ X.fs) → X.s₀.heap.FunFrames X.base l → s.heap.FunFrames X.base l := by
   intro l
   induction l with
   | nil => intro _ _; trivial
   | cons env r ih =>
     intro hs hl
     obtain ⟨hk, ⟨L, o, hf, hn, ho, hd⟩, hr⟩ := hl
     have hL : L ∈ X.fs := hs L (by unfold frs; rw [List.filterMap_cons, hf]; exact List.mem_cons_self)
     obtain ⟨sl, e⟩ := I.base.slot L o ho (I.ok.frf L hL) hL fun z => I.ok.exfs L z hL
     exact ⟨hk, ⟨L, _, hf, hn, e, hd⟩, ih (fun b hb => hs b (by unfold frs; rw [List.filterMap_cons, hf]; exact List.mem_cons_of_mem _ hb)) hr⟩
 exact all X.outer (fun _ hb => hb) I.ok.funs
theorem Inv.stack (I : Inv X pins σ H s) : s.heap.FunFrames X.base X.stack := by
 rcases I.ok.stk with e | ⟨e, hf⟩
 · rw [e]; exact I.funs
 · rw [e]
   obtain ⟨m, hn, _⟩ := I.loc
   refine .cons (by rw [I.ok.kind]; decide) hf hn ?_ I.funs
   exact Heap.get?_none_of_le (Nat.le_trans I.ok.bsz I.ok.above)
theorem Inv.stkSub (I : Inv X pins σ H s) : ∀ b ∈ frs X.stack, b ∈ X.env.locals :: X.fs := fun b hb => by
 rcases I.ok.stk with e | ⟨e, hf⟩
 · rw [e] at hb; exact List.mem_cons_of_mem _ hb
 · rw [e] at hb
   unfold frs at hb
   rw [List.filterMap_cons, hf] at hb
   exact hb
theorem Inv.stkFree (I : Inv X pins σ H s) : ∀ b ∈ frs X.stack, H b = none := fun b hb => by
 rcases List.mem_cons.mp (I.stkSub b hb) with e | hb
 · rw [e]; exact I.free
 · obtain ⟨_, o, ho, _⟩ := I.ok.funs.mem hb
   exact I.base.free b o ho (I.ok.frf b hb) fun z => I.ok.exfs b z hb
theorem Inv.step {g' : Array GenState} {t' : Nat} {d' : Drawn} {ch : List Addr} (I : Inv X pins σ H s)
   (hch : ∀ b ∈ ch, (b ∈ X.ex ∨ X.s₀.heap.objs.size ≤ b) ∧ b ≠ X.env.locals ∧ (∀ x c, X.env.cells.lookup x = some c → c ≠ b) ∧ ∀ p ∈ X.pn ++ pins, p.1 ≠ b)
   (keep : ∀ b o, b ≠ X.env.locals → b ∉ X.fs → b ∉ ch → s.heap.get? b = some o → H b = none → h'.get? b = some o)
   (slot : ∀ b o, b ≠ X.env.locals → b ∈ X.fs → b ∉ ch → s.heap.get? b = some o → H b = none → ∃ sl, h'.get? b = some { o with slots := sl }) (free : ∀ b o, b ∉ ch → s.heap.get? b = some o → H b = none → H' b = none)
   (there : ∀ b o, b ∉ ch → s.heap.get? b = some o → ∃ o', h'.get? b = some o')
   (tups : ∀ b xs, H b = some (.tup xs) → H' b = some (.tup xs)) (frzs : ∀ b o u, H b = some (.frz o u) → H' b = some (.frz o u)) (tbls : ∀ b ps, H b = some (.tbl ps) → ∃ more, H' b = some (.tbl (ps ++ more)))
   (ns : ∀ m, s.heap.Ns X.env.locals m → h'.Ns X.env.locals m) (hok : HOk X.prog X.w H' h') (hg : AllBare g') :
   Inv X pins σ H' { s with heap := h', gens := g', drawn := d', toks := t' } := by
 have neL : ∀ b o, X.s₀.heap.get? b = some o → b ≠ X.env.locals := fun b o e => Nat.ne_of_lt (Nat.lt_of_lt_of_le (Heap.lt_size e) I.ok.above)
 have neC : ∀ b o, X.s₀.heap.get? b = some o → b ∉ X.ex → b ∉ ch := fun b o e hx hb => by
   rcases (hch b hb).1 with z | z
   · exact hx z
   · exact absurd (Nat.lt_of_lt_of_le (Heap.lt_size e) z) (Nat.lt_irrefl _)
 have cellK : ∀ x c, X.env.cells.lookup x = some c → ∀ v, s.heap.IsCell c v → h'.IsCell c v := fun x c e v ⟨o, ho, hd⟩ => by
   have nch : c ∉ ch := fun z => (hch c z).2.2.1 x c e rfl
   by_cases hc : c ∈ X.fs
   · obtain ⟨sl, q⟩ := slot c o (I.cne x c e) hc nch ho (I.freeC x c e)
     exact ⟨_, q, hd⟩
   · exact ⟨o, keep c o (I.cne x c e) hc nch ho (I.freeC x c e), hd⟩
 refine ⟨I.ok, I.os, hg, ⟨fun b o e n hb hx => ?_, fun b o e n hb hx => ?_, fun b o e n hx => ?_, fun b o e hx => ?_, fun b xs e => tups b xs (I.base.tups b xs e), fun b o xs e => frzs b o xs (I.base.frzs b o xs e), fun b ps e => ?_⟩, ?_, fun x c e => ?_, ?_, fun x c e => ?_, fun p hp => ?_, hok, I.len⟩
 · exact keep b o (neL b o e) hb (neC b o e hx) (I.base.keep b o e n hb hx) (I.base.free b o e n hx)
 · obtain ⟨sl, e1⟩ := I.base.slot b o e n hb hx
   obtain ⟨sl', e2⟩ := slot b _ (neL b o e) hb (neC b o e hx) e1 (I.base.free b o e n hx)
   exact ⟨sl', e2⟩
 · obtain ⟨o', e1⟩ := I.base.there b o e hx
   exact free b o' (neC b o e hx) e1 (I.base.free b o e n hx)
 · obtain ⟨o', e1⟩ := I.base.there b o e hx
   exact there b o' (neC b o e hx) e1
 · obtain ⟨m1, e1⟩ := I.base.tbls b ps e
   obtain ⟨m2, e2⟩ := tbls b _ e1
   exact ⟨m1 ++ m2, by rw [e2, Array.append_assoc]⟩
 · obtain ⟨m, hn, hl⟩ := I.loc
   refine ⟨m, ns m hn, fun i x v e1 e2 e3 => ?_⟩
   obtain ⟨u, r, l⟩ := hl i x v e1 e2 e3
   refine ⟨u, r, ?_⟩
   rcases l with l | ⟨k, c, e, z⟩
   · exact .inl l
   · exact .inr ⟨k, c, e, cellK x c e _ z⟩
 · obtain ⟨v, z⟩ := I.cell x c e
   exact ⟨v, cellK x c e v z⟩
 · obtain ⟨m, ⟨o, _, _, ho, _⟩, _⟩ := I.loc
   exact free _ o (fun z => (hch _ z).2.1 rfl) ho I.free
 · obtain ⟨v, o, ho, hd⟩ := I.cell x c e
   exact free c o (fun z => (hch c z).2.2.1 x c e rfl) ho (I.freeC x c e)
 · obtain ⟨e, n, ne, nf, d⟩ := I.pin p hp
   have nch : p.1 ∉ ch := fun z => (hch p.1 z).2.2.2 p hp rfl
   exact ⟨keep p.1 p.2 ne nf nch e n, free p.1 p.2 nch e n, ne, nf, d⟩
theorem Inv.un {t' : Nat} (I : Inv X pins σ H s) (u : Un X.fs [] H H' s.heap h') (hok : HOk X.prog X.w H' h') : Inv X pins σ H' { s with heap := h', toks := t' } := by
 obtain ⟨m, ⟨o, es, ep, ho, r⟩, _⟩ := id I.loc
 obtain ⟨sl, hL⟩ := u.any ho I.free (by simp)
 exact I.step (g' := s.gens) (d' := s.drawn) (ch := []) (fun _ z => nomatch z) (fun b o _ hb _ e n => u.keep b o e n hb (by simp)) (fun b o _ hb _ e n => u.slot b o e n hb (by simp)) (fun b o _ e n => u.free b o e n (by simp)) (fun b o _ e => u.there b o e (by simp)) u.tups u.frzs u.tbls (fun m' hm => by
   obtain ⟨o', es', ep', ho', r'⟩ := hm
   rw [ho] at ho'; cases ho'
   exact ⟨_, es', ep', hL, r'⟩) hok I.bare
theorem Inv.call {g' : Array GenState} {t' : Nat} {d' : Drawn} {ch : List Addr} (I : Inv X pins σ H s) (u : Un (frs X.stack) ch H H' s.heap h') (hok : HOk X.prog X.w H' h') (hg : AllBare g')
   (hch : ∀ b ∈ ch, (b ∈ X.ex ∨ X.s₀.heap.objs.size ≤ b) ∧ b ≠ X.env.locals ∧ (∀ x c, X.env.cells.lookup x = some c → c ≠ b) ∧ ∀ p ∈ X.pn ++ pins, p.1 ≠ b) :
   Inv X pins σ H' { s with heap := h', gens := g', drawn := d', toks := t' } := by
 obtain ⟨m, ⟨o, es, ep, ho, r⟩, _⟩ := id I.loc
 obtain ⟨sl, hL⟩ := u.any ho I.free fun z => (hch _ z).2.1 rfl
 exact I.step (ch := ch) hch (fun b o hL hb hc e n => u.keep b o e n (fun z => (List.mem_cons.mp (I.stkSub b z)).elim hL hb) hc) (fun b o _ _ hc e n => u.any e n hc) (fun b o hc e n => u.free b o e n hc) (fun b o hc e => u.there b o e hc) u.tups u.frzs u.tbls (fun m' hm => by
   obtain ⟨o', es', ep', ho', r'⟩ := hm
   rw [ho] at ho'; cases ho'
   exact ⟨_, es', ep', hL, r'⟩) hok hg
theorem Inv.turned {t' : Nat} {it : Addr} (I : Inv X pins σ H s) (k : ∀ b o, b ≠ it → s.heap.get? b = some o → h'.get? b = some o) (hn : H it = none) (hL : it ≠ X.env.locals)
   (h1 : it ∈ X.ex ∨ X.s₀.heap.objs.size ≤ it) (h2 : ∀ x c, X.env.cells.lookup x = some c → c ≠ it) (h3 : ∀ p ∈ X.pn ++ pins, p.1 ≠ it) : Inv X pins σ H { s with heap := h', toks := t' } := by
 have nit : ∀ b u, H b = some u → b ≠ it := fun b u e z => by rw [z, hn] at e; cases e
 refine I.step (g' := s.gens) (d' := s.drawn) (ch := [it]) (fun b hb => ?_) (fun b o _ _ hc e _ => k b o (fun z => hc (by simp [z])) e) (fun b o _ _ hc e _ => ⟨o.slots, k b o (fun z => hc (by simp [z])) e⟩) (fun _ _ _ _ n => n)
   (fun b o hc e => ⟨o, k b o (fun z => hc (by simp [z])) e⟩) (fun _ _ e => e) (fun _ _ _ e => e) (fun b ps e => ⟨#[], by rw [e]; simp⟩) (fun m hm => ?_) (fun b u e => ?_) I.bare
 · have e : b = it := by simpa using hb
   subst e
   exact ⟨h1, hL, h2, h3⟩
 · obtain ⟨o, es, ep, ho, r⟩ := hm
   exact ⟨o, es, ep, k _ o (Ne.symm hL) ho, r⟩
 · refine (I.hok b u e).stay (fun c v hc q => k c v ?_ q) (fun _ q => q) fun _ _ q => q
   rcases hc with z | z
   · rw [z]; exact nit b u e
   · exact nit c _ z
theorem Inv.tok (I : Inv X pins σ H s) (t : Nat) : Inv X pins σ H { s with toks := t } := I.un (h' := s.heap) (t' := t) Un.refl I.hok
theorem Inv.kept {t' : Nat} (I : Inv X pins σ H s) (k : ∀ b u, s.heap.get? b = some u → h'.get? b = some u) : Inv X pins σ H { s with heap := h', toks := t' } := I.un (Un.kept k) (I.hok.kept k)
theorem Inv.laid {a : Addr} {o : HO} {t' : Nat} (I : Inv X pins σ H s) (k : ∀ b u, s.heap.get? b = some u → h'.get? b = some u) (hp : s.heap.objs.size ≤ a) (new : ObjOk X.prog X.w (upd H a o) h' a o) :
   Inv X pins σ (upd H a o) { s with heap := h', toks := t' } := I.un (Un.laid k hp (I.hok.fresh hp)) (I.hok.laid k hp new)
theorem Inv.write {x e : Addr} {o : HO} {t' : Nat} (I : Inv X pins σ H s) (mu : Mut (H x)) (he : e = x ∨ H e = some (.own x)) (k : ∀ b u, b ≠ e → s.heap.get? b = some u → h'.get? b = some u) (heo : ∃ u, h'.get? e = some u)
   (new : ObjOk X.prog X.w (upd H x o) h' x o) : Inv X pins σ (upd H x o) { s with heap := h', toks := t' } := I.un (Un.write mu he k heo) (I.hok.write mu he k heo new)
theorem Inv.weak {σ' : List (Option V)} (I : Inv X pins σ H s) (hl : σ'.length = σ.length) (w : ∀ (i : Nat) v, σ'[i]? = some (some v) → σ[i]? = some (some v)) : Inv X pins σ' H s :=
 ⟨I.ok, I.os, I.bare, I.base, let ⟨m, hn, hl'⟩ := I.loc; ⟨m, hn, fun i x v e1 e2 e3 => hl' i x v e1 (w i v e2) e3⟩, I.cell, I.free, I.freeC, I.pin, I.hok, hl.trans I.len⟩
theorem Inv.pins_of {pins' : List (Addr × Obj)} (I : Inv X pins σ H s) (h : ∀ p ∈ pins', s.heap.get? p.1 = some p.2 ∧ H p.1 = none ∧ p.1 ≠ X.env.locals ∧ p.1 ∉ X.fs ∧ ∀ v, p.2.data ≠ .cell v) : Inv X pins' σ H s :=
 ⟨I.ok, I.os, I.bare, I.base, I.loc, I.cell, I.free, I.freeC, fun p hp => (List.mem_append.mp hp).elim (fun z => I.pin p (List.mem_append_left _ z)) (h p), I.hok, I.len⟩
theorem nodup_ix {N : List Str} (hN : N.Nodup) {i j : Nat} {x : Str} (a : N[i]? = some x) (b : N[j]? = some x) : i = j := by
 obtain ⟨h1, e1⟩ := List.getElem?_eq_some_iff.mp a
 obtain ⟨h2, e2⟩ := List.getElem?_eq_some_iff.mp b
 exact (List.getElem_inj hN).mp (e1.trans e2.symm)
theorem store_ok2 {M : Model} {A : Around} {E : Value → Shared → Prop} {i : Nat} {x : Str} {v : V} {u : Value} {Q : Unit → Shared → Prop} (I : Inv X pins σ H s) (hN : X.N.Nodup) (hi : X.N[i]? = some x) (hx : Loc X.env.scope x) (r : RelV v u)
   (h : ∀ s', Inv X pins (σ.set i (some v)) H s' → (∃ a, Heap.SameBut a s.heap s'.heap ∧ (a = X.env.locals ∨ X.env.cells.lookup x = some a)) → Q () s') (hf : X.fn x = true ∨ X.env.scope.names.lookup x = some .local := by first | exact .inl rfl | exact .inr rfl | assumption) : wpAny M A (storeName X.env x u) Q E s := by
 obtain ⟨m, hn, hl⟩ := id I.loc
 have hcls : (X.env.scope.kind == .class || (X.env.scope.kind == .module && X.env.locals != X.env.globals)) = false := by rw [I.ok.kind]; rfl
 have hiσ : i < σ.length := by rw [I.len]; exact (List.getElem?_eq_some_iff.mp hi).1
 have cne := I.cne
 have tracked : ∀ {a : Addr} {h' : Heap}, (∃ o, s.heap.get? a = some o ∧ H a = none) → Heap.SameBut a s.heap h' → HOk X.prog X.w H h' := fun {a h'} ha hs b ob e => by
   obtain ⟨_, _, hfree⟩ := ha
   refine (I.hok b ob e).stay (fun c w' hc q => (hs.2 c ?_).trans q) (fun _ q => q) fun _ _ q => q
   rintro rfl
   rcases hc with rfl | hc
   · rw [hfree] at e; cases e
   · rw [hfree] at hc; cases hc
 rcases hx with hk | hk
 · refine wpAny_storeName_local hk hn (fun h' hn' hs => ?_) hcls
   obtain ⟨oL, _, _, hoL, _⟩ := id hn
   refine h _ ⟨I.ok, I.os, I.bare, ⟨fun b o e n hb hx => ?_, fun b o e n hb hx => ?_, I.base.free, fun b o e hx => ?_, I.base.tups, I.base.frzs, I.base.tbls⟩, ⟨_, hn', fun j y v' e1 e2 e3 => ?_⟩, fun y c e => ?_, I.free, I.freeC, fun p hp => ?_, tracked ⟨oL, hoL, I.free⟩ hs, by simpa using I.len⟩ ⟨_, hs, .inl rfl⟩
   · exact (hs.2 b (Nat.ne_of_lt (Nat.lt_of_lt_of_le (Heap.lt_size e) I.ok.above))).trans (I.base.keep b o e n hb hx)
   · obtain ⟨sl, e1⟩ := I.base.slot b o e n hb hx
     exact ⟨sl, (hs.2 b (Nat.ne_of_lt (Nat.lt_of_lt_of_le (Heap.lt_size e) I.ok.above))).trans e1⟩
   · obtain ⟨o', e1⟩ := I.base.there b o e hx
     exact ⟨o', (hs.2 b (Nat.ne_of_lt (Nat.lt_of_lt_of_le (Heap.lt_size e) I.ok.above))).trans e1⟩
   · by_cases hj : j = i
     · subst hj
       rw [hi] at e1; cases e1
       rw [List.getElem?_set_self hiσ] at e2
       cases e2
       exact ⟨u, r, .inl ⟨hk, by simp⟩⟩
     · rw [List.getElem?_set_ne (Ne.symm hj)] at e2
       obtain ⟨u', r', q⟩ := hl j y v' e1 e2 e3
       refine ⟨u', r', ?_⟩
       rcases q with ⟨k, e⟩ | ⟨k, c, e, z⟩
       · refine .inl ⟨k, ?_⟩
         have : y ≠ x := fun e => hj (nodup_ix hN e1 (e ▸ hi))
         simp [this, e]
       · exact .inr ⟨k, c, e, z.sameBut hs (cne y c e)⟩
   · obtain ⟨w', z⟩ := I.cell y c e
     exact ⟨w', z.sameBut hs (cne y c e)⟩
   · obtain ⟨e, n, ne, nf, d⟩ := I.pin p hp
     exact ⟨(hs.2 p.1 ne).trans e, n, ne, nf, d⟩
 · have hfn : X.fn x = true := by
     rcases hf with z | z
     · exact z
     · rw [z] at hk; cases hk
   obtain ⟨c, hc⟩ := I.ok.has x (.inl hk)
   obtain ⟨w', z⟩ := I.cell x c hc
   refine wpAny_storeName_cell I.ok.kind hk hc z (fun h' hc' hs => ?_)
   obtain ⟨oc, hoc, hocd⟩ := id z
   refine h { s with heap := h' } ⟨I.ok, I.os, I.bare, ⟨fun b o e n hb hx => ?_, fun b o e n hb hx => ?_, I.base.free, fun b o e hx => ?_, I.base.tups, I.base.frzs, I.base.tbls⟩, ⟨m, hn.sameBut hs (Ne.symm (cne x c hc)), fun j y v' e1 e2 e3 => ?_⟩, fun y c' e => ?_, I.free, I.freeC, fun p hp => ?_, tracked ⟨oc, hoc, I.freeC x c hc⟩ hs, by simpa using I.len⟩ ⟨c, hs, .inr hc⟩
   · exact (hs.2 b (Nat.ne_of_lt (Nat.lt_of_lt_of_le (Heap.lt_size e) (I.ok.cab x c hfn hc)))).trans (I.base.keep b o e n hb hx)
   · obtain ⟨sl, e1⟩ := I.base.slot b o e n hb hx
     exact ⟨sl, (hs.2 b (Nat.ne_of_lt (Nat.lt_of_lt_of_le (Heap.lt_size e) (I.ok.cab x c hfn hc)))).trans e1⟩
   · obtain ⟨o', e1⟩ := I.base.there b o e hx
     exact ⟨o', (hs.2 b (Nat.ne_of_lt (Nat.lt_of_lt_of_le (Heap.lt_size e) (I.ok.cab x c hfn hc)))).trans e1⟩
   · by_cases hj : j = i
     · subst hj
       rw [hi] at e1; cases e1
       rw [List.getElem?_set_self hiσ] at e2
       cases e2
       exact ⟨u, r, .inr ⟨.inl hk, c, hc, hc'⟩⟩
     · rw [List.getElem?_set_ne (Ne.symm hj)] at e2
       obtain ⟨u', r', q⟩ := hl j y v' e1 e2 e3
       refine ⟨u', r', ?_⟩
       rcases q with q | ⟨k, c', e, z'⟩
       · exact .inl q
       · refine .inr ⟨k, c', e, z'.sameBut hs ?_⟩
         rintro rfl
         exact hj (nodup_ix hN e1 (I.ok.inj _ _ _ e hc ▸ hi))
   · by_cases hcc : c' = c
     · subst hcc; exact ⟨_, hc'⟩
     · obtain ⟨w2, z2⟩ := I.cell y c' e
       exact ⟨w2, z2.sameBut hs hcc⟩
   · obtain ⟨e, n, ne, nf, d⟩ := I.pin p hp
     refine ⟨(hs.2 p.1 ?_).trans e, n, ne, nf, d⟩
     intro q
     rw [q, hoc] at e
     have q' : oc = p.2 := Option.some.inj e
     exact d w' (by rw [← q']; exact hocd)
theorem store_ok {M : Model} {A : Around} {E : Value → Shared → Prop} {i : Nat} {x : Str} {v : V} {u : Value} {Q : Unit → Shared → Prop} (I : Inv X pins σ H s) (hN : X.N.Nodup) (hi : X.N[i]? = some x) (hx : Loc X.env.scope x) (r : RelV v u)
   (h : ∀ s', Inv X pins (σ.set i (some v)) H s' → Q () s') (hf : X.fn x = true ∨ X.env.scope.names.lookup x = some .local := by first | exact .inl rfl | exact .inr rfl | assumption) : wpAny M A (storeName X.env x u) Q E s :=
 store_ok2 I hN hi hx r (fun s' I' _ => h s' I') hf
theorem Inv.call' {s' : Shared} {ch : List Addr} (I : Inv X pins σ H s) (ho : s'.os = s.os) (u : Un (frs X.stack) ch H H' s.heap s'.heap) (hok : HOk X.prog X.w H' s'.heap) (hg : AllBare s'.gens)
   (hch : ∀ b ∈ ch, (b ∈ X.ex ∨ X.s₀.heap.objs.size ≤ b) ∧ b ≠ X.env.locals ∧ (∀ x c, X.env.cells.lookup x = some c → c ≠ b) ∧ ∀ p ∈ X.pn ++ pins, p.1 ≠ b) : Inv X pins σ H' s' := by
 obtain ⟨h', g', d', t', o'⟩ := s'
 have e : o' = s.os := ho
 subst e
 exact I.call (g' := g') (t' := t') (d' := d') u hok hg hch
end
abbrev XK := Value → Option Addr → Hp → Prop
abbrev St := List (Option V)
abbrev VK := V → Hp → Prop
abbrev TE := St → Hp → VK → Prop
abbrev TT := St → Hp → (Bool → Hp → Prop) → Prop
abbrev TA := St → Hp → (List V → Hp → Prop) → Prop
structure Ends where
 nx : St → Hp → Prop
 rt : VK
 bk : St → Hp → Prop := fun _ _ => False
 ct : St → Hp → Prop := fun _ _ => False
abbrev TS := Ends → St → Hp → Prop
def EP (X : Cx) (pins : List (Addr × Obj)) (σ : St) (Q : VK) (u : Value) (s' : Shared) : Prop := ∃ v H', Inv X pins σ H' s' ∧ RelV v u ∧ Q v H'
def TP (X : Cx) (pins : List (Addr × Obj)) (σ : St) (Q : Bool → Hp → Prop) (b : Bool) (s' : Shared) : Prop := ∃ H', Inv X pins σ H' s' ∧ Q b H'
def AP (X : Cx) (pins : List (Addr × Obj)) (σ : St) (Q : List V → Hp → Prop) (us : List Value) (s' : Shared) : Prop := ∃ vs H', Inv X pins σ H' s' ∧ Vals vs us ∧ Q vs H'
def SP (X : Cx) (pins : List (Addr × Obj)) (D : Ends) (f : Flow) (s' : Shared) : Prop :=
 match f with
 | .next => ∃ σ' H', Inv X pins σ' H' s' ∧ D.nx σ' H'
 | .brk => ∃ σ' H', Inv X pins σ' H' s' ∧ D.bk σ' H'
 | .cont => ∃ σ' H', Inv X pins σ' H' s' ∧ D.ct σ' H'
 | .ret u => ∃ v σ' H', Inv X pins σ' H' s' ∧ RelV v u ∧ D.rt v H'
def PE (X : Cx) (e : Expr) (t : TE) : Prop :=
 ∀ (pins : List (Addr × Obj)) (s : Shared) (σ : St) (H : Hp) (Q : VK), Inv X pins σ H s → t σ H Q → wpAny (model X.prog X.w) X.A (eval e X.env) (EP X pins σ Q) X.xe s
def PT (X : Cx) (e : Expr) (t : TT) : Prop :=
 ∀ (pins : List (Addr × Obj)) (s : Shared) (σ : St) (H : Hp) (Q : Bool → Hp → Prop), Inv X pins σ H s → t σ H Q → wpAny (model X.prog X.w) X.A (isTrue e X.env (eval e X.env)) (TP X pins σ Q) X.xe s
def PW (X : Cx) (e : Expr) (t : TT) : Prop :=
 ∀ (whole : Sem Value) (pins : List (Addr × Obj)) (s : Shared) (σ : St) (H : Hp) (Q : Bool → Hp → Prop), Inv X pins σ H s → t σ H Q → wpAny (model X.prog X.w) X.A (isTrue e X.env whole) (TP X pins σ Q) X.xe s
theorem PW.pt {X : Cx} {e : Expr} {t : TT} (h : PW X e t) : PT X e t := h _
def PA (X : Cx) (es : List Expr) (t : TA) : Prop :=
 ∀ (pos : Pos) (pins : List (Addr × Obj)) (s : Shared) (σ : St) (H : Hp) (Q : List V → Hp → Prop), Inv X pins σ H s → t σ H Q → wpAny (model X.prog X.w) X.A (spliced (backTo pos (starEach es X.env))) (AP X pins σ Q) X.xe s
def PS (X : Cx) (st : Stmt) (t : TS) : Prop :=
 ∀ (pins : List (Addr × Obj)) (s : Shared) (σ : St) (H : Hp) (D : Ends), Inv X pins σ H s → t D σ H → wpAny (model X.prog X.w) X.A (exec st X.env) (SP X pins D) X.xe s
def PSs (X : Cx) (st : List Stmt) (t : TS) : Prop :=
 ∀ (pins : List (Addr × Obj)) (s : Shared) (σ : St) (H : Hp) (D : Ends), Inv X pins σ H s → t D σ H → wpAny (model X.prog X.w) X.A (execs st X.env) (SP X pins D) X.xe s
theorem thn {α : Type} {t : Sem α} {Q Q' : α → Shared → Prop} {M : Model} {A : Around} {E : Value → Shared → Prop} {s : Shared} (h : wpAny M A t Q E s) (hQ : ∀ a s, Q a s → Q' a s) : wpAny M A t Q' E s := wpAny_mono h hQ fun _ _ x => x
end L2
namespace L2
open PySem PySem.Spec PyProof.Rows
section
variable {X : Cx}
def tVar (i : Nat) : TE := fun σ H Q => ∃ v, σ[i]? = some (some v) ∧ Q v H
def tC (v : V) : TE := fun _ H Q => Q v H
theorem pe_var {i : Nat} {x : Str} {pos : Pos} (hN : X.N[i]? = some x) (hv : Vis X.env.scope x) (hd : (x == ("__debug__" : Str)) = false := by decide) (hcd : (x == ("__classdict__" : Str)) = false := by decide) : PE X (.Name x pos) (tVar i) := by
 intro pins s σ H Q I h
 obtain ⟨v, e, h⟩ := h
 obtain ⟨m, hn, hl⟩ := I.loc
 obtain ⟨u, r, l⟩ := hl i x v hN e hv
 have fin : EP X pins σ Q u s := ⟨v, H, I, r, h⟩
 rcases l with ⟨hk, hm⟩ | ⟨hk, c, hc, hcell⟩
 · exact wpAny_Name (wpAny_loadName_local I.ok.kind hk hn hm fin) hd
 · rcases hk with hk | hk
   · exact wpAny_Name (wpAny_loadName_cell I.ok.kind hk hc hcell fin) hd
   · exact wpAny_Name (wpAny_loadName_free I.ok.kind hk hc hcell fin hcd) hd
theorem pe_int {i j pos} : PE X (.Constant (.int i) j pos) (tC (.int i)) := fun _ _ _ H _ I h => wpAny_Constant_int ⟨.int i, H, I.tok _, ⟨_, rfl⟩, h⟩
theorem pe_bl {b j pos} : PE X (.Constant (.bool b) j pos) (tC (.bl b)) := fun _ _ _ H _ I h => Constant_bool ⟨.bl b, H, I, rfl, h⟩
theorem pe_non {j pos} : PE X (.Constant .none j pos) (tC .non) := fun _ _ _ H _ I h => Constant_none ⟨.non, H, I, rfl, h⟩
theorem pe_str {x j pos} : PE X (.Constant (.str x) j pos) (tC (.str x)) := fun _ _ _ H _ I h => Calls.Constant_str ⟨.str x, H, I.tok _, ⟨_, rfl⟩, h⟩
def Gl (X : Cx) (x : Str) : Prop := X.env.kindOf x = some .globalImplicit
theorem ld_glob {E : Value → Shared → Prop} {pins : List (Addr × Obj)} {s : Shared} {σ : St} {H : Hp} {x : Str} {u : Value} {pos : Pos} {Q : Value → Shared → Prop} (I : Inv X pins σ H s) (hg : Gl X x) (hm : X.mg x = some u) (h : Q u s)
   (hd : (x == ("__debug__" : Str)) = false := by decide) : wpAny (model X.prog X.w) X.A (eval (.Name x pos) X.env) Q E s :=
 Calls.Name_function_global I.ok.kind hg (Calls.loadGlobal_global (by rw [I.ok.glob]; exact I.mod.glob.keeps I.bk) hm h) hd
theorem ld_blt {E : Value → Shared → Prop} {pins : List (Addr × Obj)} {s : Shared} {σ : St} {H : Hp} {x : Str} {u : Value} {pos : Pos} {Q : Value → Shared → Prop} (I : Inv X pins σ H s) (hg : Gl X x) (hm : X.mg x = none) (hv : bootBuiltins x = some u) (h : Q u s)
   (hn : x ≠ "__name__" := by decide) (hd : (x == ("__debug__" : Str)) = false := by decide) : wpAny (model X.prog X.w) X.A (eval (.Name x pos) X.env) Q E s := by
 obtain ⟨mb, h1, h2⟩ := I.mod.blt
 exact Calls.Name_function_global I.ok.kind hg (Calls.loadGlobal_builtin (by rw [I.ok.glob]; exact I.mod.glob.keeps I.bk) hm (by rw [I.ok.blt]; exact h1.keeps I.bk) ((h2 x hn).trans hv) h) hd
variable {a b : Expr} {ta tb : TE} {pos : Pos}
def PC (X : Cx) (op : CmpOp) (a b : Expr) (t : TE) : Prop :=
 ∀ (pins : List (Addr × Obj)) (s : Shared) (σ : St) (H : Hp) (Q : VK), Inv X pins σ H s → t σ H Q →
   wpAny (model X.prog X.w) X.A (eval a X.env) (fun v s₁ => wpAny (model X.prog X.w) X.A (eval b X.env) (fun u s₂ => wpAny (model X.prog X.w) X.A (compareOp op v u) (EP X pins σ Q) X.xe s₂) X.xe s₁) X.xe s
def tB (t : TE) : TT := fun σ H Q => t σ H fun x H1 => ∃ c, x = .bl c ∧ Q c H1
theorem pt_cmp {op : CmpOp} {t : TE} (h : PC X op a b t) (h1 : behindInMarks op b = false := by first | exact nobehind _ (by decide) (by decide) | rfl) : PT X (.Compare a [op] [b] pos) (tB t) := by
 intro pins s σ H Q I hw
 refine wpAny_isTrue_Compare1 (thn (h pins s σ H _ I hw) fun v s1 h1 => thn h1 fun u s2 h2 => thn h2 fun c s3 ⟨x, H1, I1, r1, q1⟩ => ?_) h1
 obtain ⟨d, rfl, q⟩ := q1
 cases r1
 exact wpAny_truthy_bool ⟨H1, I1, q⟩
theorem pt_val {e : Expr} {t : TE} (h : PE X e t) (he : ∀ whole, isTrue e X.env whole = (do let v ← whole; standAt e.pos; holding [v] (truthy v)) := by intro _; rfl) : PT X e (tB t) := by
 intro pins s σ H Q I hw
 refine isTrue_plain (thn (h pins s σ H _ I hw) fun v s1 ⟨x, H1, I1, r1, q1⟩ => ?_) (he _)
 obtain ⟨d, rfl, q⟩ := q1
 cases r1
 exact wpAny_truthy_bool ⟨H1, I1, q⟩
variable {tA tB' : TT} {rest : List Expr}
def tAnd (t u : TT) : TT := fun σ H Q => t σ H fun c H1 => if c = true then u σ H1 Q else Q false H1
def tOr (t u : TT) : TT := fun σ H Q => t σ H fun c H1 => if c = true then Q true H1 else u σ H1 Q
theorem pw_and1 (ha : PT X a tA) : PW X (.BoolOp .And [a] pos) tA := by
 intro wh pins s σ H Q I h
 refine isTrue_and (thn (ha pins s σ H Q I h) fun c s1 e => ?_)
 cases c with
 | true => exact isTrue_and_nil e
 | false => exact e
theorem pw_or1 (ha : PT X a tA) : PW X (.BoolOp .Or [a] pos) tA := by
 intro wh pins s σ H Q I h
 refine isTrue_or (thn (ha pins s σ H Q I h) fun c s1 e => ?_)
 cases c with
 | false => exact isTrue_or_nil e
 | true => exact e
theorem pw_and (ha : PT X a tA) (hb : PW X (.BoolOp .And (b :: rest) pos) tB') : PW X (.BoolOp .And (a :: b :: rest) pos) (tAnd tA tB') := by
 intro wh pins s σ H Q I h
 refine isTrue_and (thn (ha pins s σ H _ I h) fun c s1 ⟨H1, I1, q1⟩ => ?_)
 cases c with
 | true => exact hb wh pins s1 σ H1 Q I1 q1
 | false => exact ⟨H1, I1, q1⟩
theorem pw_or (ha : PT X a tA) (hb : PW X (.BoolOp .Or (b :: rest) pos) tB') : PW X (.BoolOp .Or (a :: b :: rest) pos) (tOr tA tB') := by
 intro wh pins s σ H Q I h
 refine isTrue_or (thn (ha pins s σ H _ I h) fun c s1 ⟨H1, I1, q1⟩ => ?_)
 cases c with
 | true => exact ⟨H1, I1, q1⟩
 | false => exact hb wh pins s1 σ H1 Q I1 q1
def tIf (t : TT) (ta tb : TE) : TE := fun σ H Q => t σ H fun c H1 => if c = true then ta σ H1 Q else tb σ H1 Q
theorem pe_ifExp {c : Expr} (hc : PT X c tA) (ha : PE X a ta) (hb : PE X b tb) : PE X (.IfExp c a b pos) (tIf tA ta tb) := by
 intro pins s σ H Q I h
 refine wpAny_IfExp (thn (hc pins s σ H _ I h) fun d s1 ⟨H1, I1, q1⟩ => ?_)
 cases d with
 | true => exact ha pins s1 σ H1 Q I1 q1
 | false => exact hb pins s1 σ H1 Q I1 q1
end
end L2
namespace L2
open PySem PySem.Spec PyProof.Rows
def SqL (K : PySem.W.Frag) (H : Hp) (a : Addr) (xs : List V) : Prop :=
 Rd H a (.lst xs) ∨
   ∃ (o : Obj) (its : Array Value) (n : Nat), K.lookup a = some o ∧ o.cls = .type "list" ∧ o.dict = none ∧ o.data = .seq its n ∧ its.size ≤ sizeLine ∧ Vals xs its.toList
def SqT (K : PySem.W.Frag) (H : Hp) (a : Addr) (xs : List V) : Prop :=
 Rd H a (.tup xs) ∨
   ∃ (o : Obj) (its : Array Value) (n : Nat), K.lookup a = some o ∧ o.cls = .type "tuple" ∧ o.data = .seq its n ∧ its.size ≤ sizeLine ∧ Vals xs its.toList
def absV : Value → Option V
 | .none => some .non
 | .bool b => some (.bl b)
 | .int i _ => some (.int i)
 | .str x _ => some (.str x)
 | .bytes b _ => some (.byt b)
 | .float b _ => some (.flt b)
 | .ref a => some (.ref a)
 | .type n => some (.ty n)
 | _ => none
theorem RelV.abs {x : V} {u : Value} (r : RelV x u) : absV u = some x := by
 cases x with
 | non => cases r; rfl
 | bl _ => cases r; rfl
 | int _ => obtain ⟨t, rfl⟩ := r; rfl
 | str _ => obtain ⟨t, rfl⟩ := r; rfl
 | byt _ => obtain ⟨t, rfl⟩ := r; rfl
 | flt _ => obtain ⟨t, rfl⟩ := r; rfl
 | ref _ => cases r; rfl
 | ty _ => cases r; rfl
theorem RelV.inj {x y : V} {u : Value} (r : RelV x u) (q : RelV y u) : x = y := Option.some.inj (r.abs.symm.trans q.abs)
theorem Vals.inj : ∀ {xs ys : List V} {us : List Value}, Vals xs us → Vals ys us → xs = ys
 | _, _, _, .nil, .nil => rfl
 | _, _, _, .cons r t, .cons r' t' => by rw [r.inj r', Vals.inj t t']
section
variable {X : Cx} {pins : List (Addr × Obj)} {σ : St} {H : Hp} {s : Shared} {a : Addr} {xs ys : List V}
theorem SqL.of {K : PySem.W.Frag} (h : H a = some (.lst xs)) : SqL K H a xs := .inl (.inl h)
theorem SqT.of {K : PySem.W.Frag} (h : H a = some (.tup xs)) : SqT K H a xs := .inl (.inl h)
theorem Inv.list (I : Inv X pins σ H s) (h : SqL X.K H a xs) : ∃ its : List Value, Vals xs its ∧ PlainL s.heap a its.toArray ∧ xs.length ≤ sizeLine := by
 rcases h with h | ⟨o, its, n, hk, hc, hd, hs, hz, r⟩
 · obtain ⟨z, its, n, r, e⟩ := h.ok I.hok
   exact ⟨its, r, ⟨_, n, e, rfl, rfl, rfl⟩, z⟩
 · refine ⟨its.toList, r, ⟨o, n, I.kIn a o hk, hc, hd, by simpa using hs⟩, ?_⟩
   have e := r.length
   simp only [Array.length_toList] at e
   omega
theorem Inv.tuple (I : Inv X pins σ H s) (h : SqT X.K H a xs) : ∃ its : List Value, Vals xs its ∧ IsTup s.heap a its.toArray ∧ xs.length ≤ sizeLine := by
 rcases h with h | ⟨o, its, n, hk, hc, hs, hz, r⟩
 · obtain ⟨z, its, r, p⟩ := h.ok I.hok
   exact ⟨its, r, p, z⟩
 · refine ⟨its.toList, r, ⟨o, I.kIn a o hk, hc, n, by simpa using hs⟩, ?_⟩
   have e := r.length
   simp only [Array.length_toList] at e
   omega
theorem Inv.list_inj (I : Inv X pins σ H s) (h : SqL X.K H a xs) (h' : SqL X.K H a ys) : xs = ys := by
 obtain ⟨its, r, ⟨o, n, e, _, _, d⟩, _⟩ := I.list h
 obtain ⟨its', r', ⟨o', n', e', _, _, d'⟩, _⟩ := I.list h'
 rw [e] at e'; cases e'
 rw [d] at d'
 injection d' with d1 _
 have : its = its' := by simpa using congrArg Array.toList d1
 subst this
 exact r.inj r'
theorem Inv.tuple_inj (I : Inv X pins σ H s) (h : SqT X.K H a xs) (h' : SqT X.K H a ys) : xs = ys := by
 obtain ⟨its, r, ⟨o, e, _, n, d⟩, _⟩ := I.tuple h
 obtain ⟨its', r', ⟨o', e', _, n', d'⟩, _⟩ := I.tuple h'
 rw [e] at e'; cases e'
 rw [d] at d'
 injection d' with d1 _
 have : its = its' := by simpa using congrArg Array.toList d1
 subst this
 exact r.inj r'
end
abbrev Cx.wish (X : Cx) (E : Value → Shared → Prop) : Cx := { X with xe := E }
abbrev Cx.nox (X : Cx) : Cx := X.wish fun _ _ => False
theorem Cx.Ok.wish {X : Cx} (ok : X.Ok) (E : Value → Shared → Prop) : (X.wish E).Ok :=
 ⟨ok.mod, ok.kind, ok.glob, ok.blt, ok.above, ok.inj, ok.has, ok.cab, ok.hd, ok.frames, ok.stk, ok.exf, ok.bs, ok.bsz, ok.noex, ok.exfs, ok.funs, ok.frf⟩
theorem Cx.Ok.unwish {X : Cx} {E : Value → Shared → Prop} (ok : (X.wish E).Ok) : X.Ok :=
 ⟨ok.mod, ok.kind, ok.glob, ok.blt, ok.above, ok.inj, ok.has, ok.cab, ok.hd, ok.frames, ok.stk, ok.exf, ok.bs, ok.bsz, ok.noex, ok.exfs, ok.funs, ok.frf⟩
section
variable {X : Cx} {pins : List (Addr × Obj)} {σ : St} {H : Hp} {s : Shared} {E : Value → Shared → Prop}
theorem Inv.wish (I : Inv X pins σ H s) (E : Value → Shared → Prop) : Inv (X.wish E) pins σ H s := ⟨I.ok.wish E, I.os, I.bare, I.base, I.loc, I.cell, I.free, I.freeC, I.pin, I.hok, I.len⟩
theorem Inv.unwish (I : Inv (X.wish E) pins σ H s) : Inv X pins σ H s := ⟨I.ok.unwish, I.os, I.bare, I.base, I.loc, I.cell, I.free, I.freeC, I.pin, I.hok, I.len⟩
theorem SP.unwish {D : Ends} {f : Flow} {s' : Shared} (h : SP (X.wish E) pins D f s') : SP X pins D f s' := by
 cases f with
 | next => obtain ⟨σ', H', I, q⟩ := h; exact ⟨σ', H', I.unwish, q⟩
 | brk => obtain ⟨σ', H', I, q⟩ := h; exact ⟨σ', H', I.unwish, q⟩
 | cont => obtain ⟨σ', H', I, q⟩ := h; exact ⟨σ', H', I.unwish, q⟩
 | ret u => obtain ⟨v, σ', H', I, r, q⟩ := h; exact ⟨v, σ', H', I.unwish, r, q⟩
theorem PE.nox {e : Expr} {t : TE} (h : PE X.nox e t) : PE X e t := fun pins s σ H Q I hw =>
 wpAny_mono (h pins s σ H Q (I.wish _) hw) (fun _ _ ⟨v, H', I', r, q⟩ => ⟨v, H', I'.unwish, r, q⟩) fun _ _ z => False.elim z
theorem PT.nox {e : Expr} {t : TT} (h : PT X.nox e t) : PT X e t := fun pins s σ H Q I hw =>
 wpAny_mono (h pins s σ H Q (I.wish _) hw) (fun _ _ ⟨H', I', q⟩ => ⟨H', I'.unwish, q⟩) fun _ _ z => False.elim z
theorem PSs.nox {st : List Stmt} {t : TS} (h : PSs X.nox st t) : PSs X st t := fun pins s σ H D I hw =>
 wpAny_mono (h pins s σ H D (I.wish _) hw) (fun _ _ q => q.unwish) fun _ _ z => False.elim z
end
section
variable {X : Cx} {st : Stmt} {rest : List Stmt} {t u : TS} {e : Expr} {te : TE} {pos : Pos}
def tNext : TS := fun D σ H => D.nx σ H
def tSeq (t u : TS) : TS := fun D σ H => t { D with nx := u D } σ H
theorem pss_nil : PSs X [] tNext := fun _ _ σ H _ I h => wpAny_execs_nil ⟨σ, H, I, h⟩
theorem pss_cons (h1 : PS X st t) (h2 : PSs X rest u) : PSs X (st :: rest) (tSeq t u) := by
 intro pins s σ H D I h
 refine wpAny_execs_cons (thn (h1 pins s σ H { D with nx := u D } I h) fun f s1 q => ?_)
 cases f with
 | next =>
   obtain ⟨σ', H', I', q⟩ := q
   exact h2 pins s1 σ' H' D I' q
 | ret v => exact q
 | brk => exact q
 | cont => exact q
theorem pss_one (h1 : PS X st t) : PSs X [st] t := by
 intro pins s σ H D I h
 refine wpAny_execs_cons (thn (h1 pins s σ H D I h) fun f s1 q => ?_)
 cases f with
 | next => exact wpAny_execs_nil q
 | ret v => exact q
 | brk => exact q
 | cont => exact q
theorem Inv.quiet {pins : List (Addr × Obj)} {σ : St} {H : Hp} {s : Shared} (I : Inv X pins σ H s) : interactive X.env = false := by simp [interactive, I.ok.kind]
def tDrop (te : TE) : TS := fun D σ H => te σ H fun _ H1 => D.nx σ H1
theorem ps_expr (he : PE X e te) (hs : swapsWith e none pos.line X.env = pure false := by rfl) : PS X (.Expr e pos) (tDrop te) := by
 intro pins s σ H D I h
 exact wpAny_Expr_any (thn (he pins s σ H _ I h) fun v s1 ⟨x, H1, I1, r1, q1⟩ => ⟨σ, H1, I1, q1⟩) I.quiet hs
def tRet (te : TE) : TS := fun D σ H => te σ H D.rt
theorem ps_ret (he : PE X e te) : PS X (.Return (some e) pos) (tRet te) := by
 intro pins s σ H D I h
 exact wpAny_Return_some (thn (he pins s σ H _ I h) fun v s1 ⟨x, H1, I1, r1, q1⟩ => ⟨x, σ, H1, I1, r1, q1⟩)
def tIfS (c : TT) (t u : TS) : TS := fun D σ H => c σ H fun b H1 => if b = true then t D σ H1 else u D σ H1
theorem ps_if {c : Expr} {a b : List Stmt} {tc : TT} (hc : PT X c tc) (ha : PSs X a t) (hb : PSs X b u) : PS X (.If c a b pos) (tIfS tc t u) := by
 intro pins s σ H D I h
 refine wpAny_If (thn (hc pins s σ H _ I h) fun d s1 ⟨H1, I1, q1⟩ => ?_)
 cases d with
 | true => exact ha pins s1 σ H1 D I1 q1
 | false => exact hb pins s1 σ H1 D I1 q1
end
abbrev TG := V → St → Hp → (St → Hp → Prop) → Prop
def PG (X : Cx) (target : Expr) (t : TG) : Prop :=
 ∀ (pins : List (Addr × Obj)) (s : Shared) (σ : St) (H : Hp) (v : V) (u : Value) (Q : St → Hp → Prop), Inv X pins σ H s → RelV v u → t v σ H Q →
   wpAny (model X.prog X.w) X.A (assign target X.env u) (fun _ s' => ∃ σ' H', Inv X pins σ' H' s' ∧ Q σ' H') X.xe s
abbrev TIp := V → V → Hp → VK → Prop
def PIp (X : Cx) (op : Operator) (t : TIp) : Prop :=
 ∀ (pins : List (Addr × Obj)) (s : Shared) (σ : St) (H : Hp) (x y : V) (v u : Value) (Q : VK), Inv X pins σ H s → RelV x v → RelV y u → t x y H Q →
   wpAny (model X.prog X.w) X.A (inplaceOp op v u) (EP X pins σ Q) X.xe s
section
variable {X : Cx} {pos : Pos}
def gName (i : Nat) : TG := fun v σ H Q => Q (σ.set i (some v)) H
theorem pg_name {i : Nat} {x : Str} (hN : X.N.Nodup) (hi : X.N[i]? = some x) (hx : Loc X.env.scope x) (hf : X.fn x = true ∨ X.env.scope.names.lookup x = some .local := by first | exact .inl rfl | exact .inr rfl | assumption) : PG X (.Name x pos) (gName i) := by
 intro pins s σ H v u Q I r h
 exact wpAny_assign_Name (store_ok I hN hi hx r (fun s' I' => ⟨_, H, I', h⟩) hf)
def tAsg (te : TE) (g : TG) : TS := fun D σ H => te σ H fun x H1 => g x σ H1 D.nx
theorem ps_set {i : Nat} {x : Str} {e : Expr} {te : TE} {pos' : Pos} (hN : X.N.Nodup) (hi : X.N[i]? = some x) (hx : Loc X.env.scope x) (he : PE X e te) (hs : swapsWith e (some (.Name x pos')) pos.line X.env = pure false := by rfl) (hf : X.fn x = true ∨ X.env.scope.names.lookup x = some .local := by first | exact .inl rfl | exact .inr rfl | assumption) :
   PS X (.Assign [.Name x pos'] e pos) (tAsg te (gName i)) := by
 intro pins s σ H D I h
 refine wpAny_Assign_Name (thn (he pins s σ H _ I h) fun v s1 ⟨y, H1, I1, r1, q1⟩ => ?_) hs
 exact store_ok I1 hN hi hx r1 (fun s2 I2 => ⟨_, H1, I2, q1⟩) hf
def tAug (i : Nat) (te : TE) (ti : TIp) : TS := fun D σ H => ∃ x, σ[i]? = some (some x) ∧ te σ H fun y H1 => ti x y H1 fun z H2 => D.nx (σ.set i (some z)) H2
theorem ps_aug {i : Nat} {x : Str} {e : Expr} {te : TE} {op : Operator} {ti : TIp} {pos' : Pos} (hN : X.N.Nodup) (hi : X.N[i]? = some x) (hx : Loc X.env.scope x) (he : PE X e te) (ho : PIp X op ti) (hf : X.fn x = true ∨ X.env.scope.names.lookup x = some .local := by first | exact .inl rfl | exact .inr rfl | assumption) :
   PS X (.AugAssign (.Name x pos') op e pos) (tAug i te ti) := by
 intro pins s σ H D I h
 obtain ⟨v, e1, h⟩ := h
 obtain ⟨m, hn, hl⟩ := I.loc
 have vis : Vis X.env.scope x := by rcases hx with k | k; exact .inl k; exact .inr (.inl k)
 obtain ⟨u, r, l⟩ := hl i x v hi e1 vis
 refine wpAny_AugAssign_Name ?_
 have go : wpAny (model X.prog X.w) X.A (eval e X.env) (fun w s₂ => wpAny (model X.prog X.w) X.A (inplaceOp op u w) (fun r s₃ => wpAny (model X.prog X.w) X.A (storeName X.env x r) (fun _ => SP X pins D .next) X.xe s₃) X.xe s₂) X.xe s := by
   refine thn (he pins s σ H _ I h) fun w s1 ⟨y, H1, I1, r1, q1⟩ => ?_
   refine thn (ho pins s1 σ H1 v y u w _ I1 r r1 q1) fun z s2 ⟨zv, H2, I2, r2, q2⟩ => ?_
   exact store_ok I2 hN hi hx r2 (fun s3 I3 => ⟨_, H2, I3, q2⟩) hf
 rcases l with ⟨hk, hm⟩ | ⟨hk, c, hc, hcell⟩
 · exact wpAny_loadName_local I.ok.kind hk hn hm go
 · rcases hk with hk | hk
   · exact wpAny_loadName_cell I.ok.kind hk hc hcell go
   · rcases hx with k | k
     · have : X.env.scope.names.lookup x = some .free := hk
       rw [k] at this; cases this
     · have : X.env.scope.names.lookup x = some .free := hk
       rw [k] at this; cases this
def ipI (f : Int → Int → Int) : TIp := fun x y H Q => ∃ i j, x = .int i ∧ y = .int j ∧ Q (.int (f i j)) H
theorem ip_add : PIp X .Add (ipI fun i j => i + j) := by
 intro pins s σ H x y v u Q I r1 r2 h
 obtain ⟨i, j, e1, e2, q⟩ := h
 subst e1; subst e2
 obtain ⟨t, rfl⟩ := r1
 obtain ⟨t', rfl⟩ := r2
 exact iadd_int ⟨.int _, H, I.tok _, ⟨_, rfl⟩, q⟩
end
section
variable {X : Cx} {pos : Pos}
def tWhile (c : TT) (tb : TS) : TS := fun D σ H => ∃ W : Nat → St → Hp → Prop, (∃ m, W m σ H) ∧ ∀ m σ H, W m σ H →
 c σ H fun b H1 => if b = true then ∃ N : St → Hp → Prop, (∀ σ' H', N σ' H' → ∃ m', m' < m ∧ W m' σ' H') ∧ tb { D with nx := N, ct := N, bk := D.nx } σ H1 else D.nx σ H1
theorem ps_while {c : Expr} {body : List Stmt} {tc : TT} {tb : TS} (hp : PassesOwn (model X.prog X.w) X.A X.env X.xe) (hc : PT X c tc) (hb : PSs X body tb) : PS X (.While c body [] pos) (tWhile tc tb) := by
 intro pins s σ H D I h
 obtain ⟨W, ⟨m0, w0⟩, turn⟩ := h
 refine wpAny_While (codeAny_whileLoop (fun n s' => ∃ σ' H', Inv X pins σ' H' s' ∧ W n σ' H') ?_ m0 ⟨σ, H, I, w0⟩)
 rintro n s1 ⟨σ1, H1, I1, w1⟩
 refine wpAny_passesOwn hp (thn (hc pins s1 σ1 H1 _ I1 (turn n σ1 H1 w1)) fun b s2 ⟨H2, I2, q2⟩ => ?_)
 cases b with
 | true =>
   obtain ⟨N, hN, q2⟩ := q2
   rw [if_pos rfl]
   refine wpAny_passesOwn hp (thn (hb pins s2 σ1 H2 _ I2 q2) fun f s3 q3 => ?_)
   cases f with
   | next =>
     obtain ⟨σ3, H3, I3, n3⟩ := q3
     obtain ⟨m', hm, w3⟩ := hN σ3 H3 n3
     exact ⟨m', hm, σ3, H3, I3, w3⟩
   | cont =>
     obtain ⟨σ3, H3, I3, n3⟩ := q3
     obtain ⟨m', hm, w3⟩ := hN σ3 H3 n3
     exact ⟨m', hm, σ3, H3, I3, w3⟩
   | brk => exact q3
   | ret v => exact q3
 | false =>
   rw [if_neg Bool.false_ne_true]
   exact wpAny_execs_nil ⟨σ1, H2, I2, q2⟩
end
structure It where
 go : Nat → Hp → Prop
 yld : Nat → Hp → V → Hp → Prop
 stop : Nat → Hp → Prop
def FpOk (X : Cx) (pins : List (Addr × Obj)) (H : Hp) (b : Addr) : Prop :=
 H b = none ∧ b ≠ X.env.locals ∧ b ∉ X.fs ∧ (b ∈ X.ex ∨ X.s₀.heap.objs.size ≤ b) ∧ (∀ x c, X.env.cells.lookup x = some c → c ≠ b) ∧ ∀ p ∈ X.pn ++ pins, p.1 ≠ b
theorem Inv.fpOk {X : Cx} {pins : List (Addr × Obj)} {σ : St} {H H' : Hp} {s : Shared} {b : Addr} (I : Inv X pins σ H s) (hb : s.heap.objs.size ≤ b) (hn : H' b = none) : FpOk X pins H' b := by
 refine ⟨hn, Nat.ne_of_gt (Nat.lt_of_lt_of_le I.lt hb), I.nofs hb, .inr (Nat.le_trans I.sz hb), fun x c e z => ?_, fun p hp z => ?_⟩
 · obtain ⟨v, q⟩ := I.cell x c e
   exact absurd (Nat.lt_of_lt_of_le q.lt (by rw [z]; exact hb)) (Nat.lt_irrefl _)
 · exact absurd (Nat.lt_of_lt_of_le (Heap.lt_size (I.pin p hp).1) (by rw [z]; exact hb)) (Nat.lt_irrefl _)
structure Turn (P : Program) (w : World) (K : PySem.W.Frag) (tg : Expr) (J : It) (fp : List Addr) (it : Addr) (tn : Nat → Heap → Prop) : Prop where
 mem : it ∈ fp
 obj : ∀ i h, tn i h → ∀ b ∈ fp, ∃ o, h.get? b = some o ∧ ∀ v, o.data ≠ .cell v
 keep : ∀ i h h', tn i h → (∀ b ∈ fp, ∀ o, h.get? b = some o → h'.get? b = some o) → tn i h'
 item : ∀ (X : Cx), X.prog = P → X.w = w → X.K = K → X.calm = true → ∀ (i : Nat) (pins : List (Addr × Obj)) (s : Shared) (σ : St) (H : Hp) (E : Value → Shared → Prop), Inv X pins σ H s → (∀ b ∈ fp, FpOk X pins H b) → tn i s.heap → J.go i H →
   wpAny (model P w) X.A (pyNext (.ref it)) (fun r s1 => ∃ u, r = some u ∧
     wpAny (model P w) X.A (letOwnedTupleGo tg (.ref it) u) (fun _ s2 => ∃ x H', Inv X pins σ H' s2 ∧ RelV x u ∧ J.yld i H x H' ∧ tn (i + 1) s2.heap ∧ ∀ b ∈ fp, H' b = none) E s1) E s
 done : ∀ (X : Cx), X.prog = P → X.w = w → X.K = K → X.calm = true → ∀ (i : Nat) (pins : List (Addr × Obj)) (s : Shared) (σ : St) (H : Hp) (E : Value → Shared → Prop), Inv X pins σ H s → (∀ b ∈ fp, FpOk X pins H b) → tn i s.heap → J.stop i H →
   wpAny (model P w) X.A (pyNext (.ref it)) (fun r s1 => r = none ∧ Inv X pins σ H s1) E s
 self : ∀ (A : Around) (i : Nat) (s : Shared) (Q : Value → Shared → Prop) (E : Value → Shared → Prop), tn i s.heap → Q (.ref it) s → wpAny (model P w) A (pyIter (.ref it)) Q E s
abbrev TI := St → Hp → (It → Hp → Prop) → Prop
def PIE (X : Cx) (pins : List (Addr × Obj)) (σ : St) (tg : Expr) (R : It → Hp → Prop) (itv : Value) (s2 : Shared) : Prop :=
 ∃ (it : Addr) (fp : List Addr) (tn : Nat → Heap → Prop) (J : It) (H' : Hp), itv = .ref it ∧ Inv X pins σ H' s2 ∧ Turn X.prog X.w X.K tg J fp it tn ∧ tn 0 s2.heap ∧ (∀ b ∈ fp, FpOk X pins H' b) ∧ R J H'
def PI (X : Cx) (tg iter : Expr) (wi : TI) : Prop :=
 ∀ (pins : List (Addr × Obj)) (s : Shared) (σ : St) (H : Hp) (R : It → Hp → Prop), Inv X pins σ H s → wi σ H R →
   wpAny (model X.prog X.w) X.A (eval iter X.env) (fun v s1 => wpAny (model X.prog X.w) X.A (pyIter v) (PIE X pins σ tg R) X.xe s1) X.xe s
theorem go_of {M : Model} {A : Around} {E : Value → Shared → Prop} {s : Shared} {tg : Expr} {it : Addr} {u : Value} {o : Obj} {n : String} {vs : Array Value} {Q : Unit → Shared → Prop} (ho : s.heap.get? it = some o) (hc : o.cls = .type n) (hd : o.data = .fields vs)
   (hn : ["enumerate", "zip", "dict_itemiterator", "dict_reverseitemiterator", "odict_iterator", "itertools.zip_longest", "itertools.pairwise"].contains n = false) (hQ : Q () s) : wpAny M A (letOwnedTupleGo tg (.ref it) u) Q E s := by
 unfold letOwnedTupleGo
 cases tg <;> first
   | exact wpAny_pure hQ
   | (cases u <;> first
       | exact wpAny_pure hQ
       | (refine wpAny_bind (wpAny_load ho ?_)
          rw [hc, hd]
          show wpAny M A (if (["enumerate", "zip", "dict_itemiterator", "dict_reverseitemiterator", "odict_iterator", "itertools.zip_longest", "itertools.pairwise"].contains n && vs[0]? == some (rawInt _)) = true then _ else _) Q E s
          rw [if_neg (by intro h; rw [hn, Bool.false_and] at h; cases h)]
          exact wpAny_pure hQ))
def Itl (K : PySem.W.Frag) (a : Addr) : It :=
 ⟨fun i H => ∃ xs x, SqL K H a xs ∧ xs[i]? = some x, fun i H x H' => H' = H ∧ ∀ xs, SqL K H a xs → xs[i]? = some x, fun i H => ∃ xs, SqL K H a xs ∧ xs.length ≤ i⟩
def Itt (K : PySem.W.Frag) (a : Addr) : It :=
 ⟨fun i H => ∃ xs x, SqT K H a xs ∧ xs[i]? = some x, fun i H x H' => H' = H ∧ ∀ xs, SqT K H a xs → xs[i]? = some x, fun i H => ∃ xs, SqT K H a xs ∧ xs.length ≤ i⟩
def Itr (lo : Int) (n : Nat) : It := ⟨fun i _ => i < n, fun i H x H' => H' = H ∧ x = .int (lo + i), fun i _ => n ≤ i⟩
theorem turn_list {P : Program} {w : World} {K : PySem.W.Frag} {tg : Expr} (a it : Addr) : Turn P w K tg (Itl K a) [it] it (fun i h => h.IsListIter it a i) where
 mem := by simp
 obj := fun i h st b hb => by
   have e : b = it := by simpa using hb
   subst e
   obtain ⟨o, e, c, d⟩ := st
   exact ⟨o, e, fun v z => by rw [d] at z; cases z⟩
 keep := fun i h h' st k => st.at fun o e => k it (by simp) o e
 item := by
   intro X hP hw hK hc i pins s σ H E I hf st hg
   subst hP hw hK
   obtain ⟨xs, x, hq, hx⟩ := hg
   obtain ⟨its, rv, p, hz⟩ := I.list hq
   obtain ⟨u, hu, ru⟩ := rv.get hx
   obtain ⟨f0, f1, f2, f3, f4, f5⟩ := hf it (by simp)
   refine wpAny_pyNext_list_item st p.isList (x := u) (by simpa using hu) fun h' st' sb => ?_
   have I1 : Inv X pins σ H { s with heap := h' } := I.turned (t' := s.toks) (fun b o hb e => (sb.2 b hb).trans e) f0 f1 f3 f4 f5
   obtain ⟨o, e, c, d⟩ := id st'
   exact ⟨u, rfl, go_of (s := { s with heap := h' }) e c d (by decide) ⟨x, H, I1, ru, ⟨rfl, fun ys hy => by rw [I.list_inj hy hq]; exact hx⟩, st', fun b hb => (hf b hb).1⟩⟩
 done := by
   intro X hP hw hK hc i pins s σ H E I hf st hg
   subst hP hw hK
   obtain ⟨xs, hq, hx⟩ := hg
   obtain ⟨its, rv, p, hz⟩ := I.list hq
   obtain ⟨f0, f1, f2, f3, f4, f5⟩ := hf it (by simp)
   have hl := rv.length
   exact wpAny_pyNext_list_end (I.ok.hd hc) st p.isList (by simp; omega) fun h' eb => ⟨rfl, I.turned (t' := s.toks) (fun b o hb e => eb b o hb e) f0 f1 f3 f4 f5⟩
 self := fun _ _ _ _ _ st h => wpAny_pyIter_listiter st h
theorem turn_tuple {P : Program} {w : World} {K : PySem.W.Frag} {tg : Expr} (a it : Addr) : Turn P w K tg (Itt K a) [it] it (fun i h => h.IsTupleIter it a i) where
 mem := by simp
 obj := fun i h st b hb => by
   have e : b = it := by simpa using hb
   subst e
   obtain ⟨o, e, c, d⟩ := st
   exact ⟨o, e, fun v z => by rw [d] at z; cases z⟩
 keep := fun i h h' st k => st.at fun o e => k it (by simp) o e
 item := by
   intro X hP hw hK hc i pins s σ H E I hf st hg
   subst hP hw hK
   obtain ⟨xs, x, hq, hx⟩ := hg
   obtain ⟨its, rv, p, hz⟩ := I.tuple hq
   obtain ⟨u, hu, ru⟩ := rv.get hx
   obtain ⟨f0, f1, f2, f3, f4, f5⟩ := hf it (by simp)
   refine wpAny_pyNext_tuple_item st (show s.heap.IsTuple a its.toArray from p) (x := u) (by simpa using hu) fun h' st' sb => ?_
   have I1 : Inv X pins σ H { s with heap := h' } := I.turned (t' := s.toks) (fun b o hb e => (sb.2 b hb).trans e) f0 f1 f3 f4 f5
   obtain ⟨o, e, c, d⟩ := id st'
   exact ⟨u, rfl, go_of (s := { s with heap := h' }) e c d (by decide) ⟨x, H, I1, ru, ⟨rfl, fun ys hy => by rw [I.tuple_inj hy hq]; exact hx⟩, st', fun b hb => (hf b hb).1⟩⟩
 done := by
   intro X hP hw hK hc i pins s σ H E I hf st hg
   subst hP hw hK
   obtain ⟨xs, hq, hx⟩ := hg
   obtain ⟨its, rv, p, hz⟩ := I.tuple hq
   obtain ⟨f0, f1, f2, f3, f4, f5⟩ := hf it (by simp)
   have hl := rv.length
   exact wpAny_pyNext_tuple_end (I.ok.hd hc) st (show s.heap.IsTuple a its.toArray from p) (by simp; omega) fun h' eb => ⟨rfl, I.turned (t' := s.toks) (fun b o hb e => eb b o hb e) f0 f1 f3 f4 f5⟩
 self := fun _ _ _ _ _ st h => wpAny_pyIter_tupleiter st h
theorem turn_range {P : Program} {w : World} {K : PySem.W.Frag} {tg : Expr} (it : Addr) (lo : Int) (n : Nat) : Turn P w K tg (Itr lo n) [it] it (fun i h => IsRangeIter h it (lo + (i : Nat) * 1) ((n : Int) - (i : Nat)) 1) where
 mem := by simp
 obj := fun i h st b hb => by
   have e : b = it := by simpa using hb
   subst e
   exact ⟨_, st, fun v z => by
     have z' : Data.fields _ = Data.cell v := z
     cases z'⟩
 keep := fun i h h' st k => k it (by simp) _ st
 item := by
   intro X hP hw hK hc i pins s σ H E I hf st hg
   subst hP hw hK
   obtain ⟨f0, f1, f2, f3, f4, f5⟩ := hf it (by simp)
   have W := Walks.range (prog := X.prog) (w := X.w) (I.ok.hd hc) it lo 1 n
   refine W.item i s _ _ hg st fun v h' tk hv st' kk => ?_
   obtain ⟨t, rfl⟩ := hv
   have I1 : Inv X pins σ H { s with heap := h', toks := tk } := I.turned (fun b o hb e => kk b o (by simpa using hb) e) f0 f1 f3 f4 f5
   refine ⟨_, rfl, go_of (s := { s with heap := h', toks := tk }) (n := "range_iterator") st' rfl rfl (by decide) ⟨.int (lo + i), H, I1, ⟨t, ?_⟩, ⟨rfl, rfl⟩, st', fun b hb => (hf b hb).1⟩⟩
   rw [Int.mul_one]
 done := by
   intro X hP hw hK hc i pins s σ H E I hf st hg
   subst hP hw hK
   obtain ⟨f0, f1, f2, f3, f4, f5⟩ := hf it (by simp)
   exact wpAny_pyNext_range_end (I.ok.hd hc) st (by have : n ≤ i := hg; omega) fun h' eb => ⟨rfl, I.turned (t' := s.toks) (fun b o hb e => eb b o hb e) f0 f1 f3 f4 f5⟩
 self := fun _ _ _ _ _ st h => wpAny_pyIter_rangeiter st h
end L2
namespace L2
open PySem PySem.Spec PyProof.Rows
section
variable {X : Cx} {tg : Expr}
def iList (K : PySem.W.Frag) (tl : TE) : TI := fun σ H R => tl σ H fun x H1 => ∃ a, x = .ref a ∧ (∃ xs, SqL K H1 a xs) ∧ R (Itl K a) H1
def iTup (K : PySem.W.Frag) (tl : TE) : TI := fun σ H R => tl σ H fun x H1 => ∃ a, x = .ref a ∧ (∃ xs, SqT K H1 a xs) ∧ R (Itt K a) H1
theorem pi_list {l : Expr} {tl : TE} (hl : PE X l tl) : PI X tg l (iList X.K tl) := by
 intro pins s σ H R I h
 refine thn (hl pins s σ H _ I h) fun v s1 ⟨x, H1, I1, r1, q1⟩ => ?_
 obtain ⟨a, e, ⟨xs, hq⟩, q⟩ := q1
 subst e
 cases r1
 obtain ⟨its, rv, p, hz⟩ := I1.list hq
 refine wpAny_pyIter_list p.isList ?_
 refine ⟨s1.heap.objs.size, [s1.heap.objs.size], _, _, H1, rfl, I1.kept (t' := s1.toks) fun b o e => Heap.get?_push_of_some _ e, turn_list a _, ⟨_, Heap.get?_push_size _ rfl, rfl, rfl⟩, fun b hb => ?_, q⟩
 have e : b = s1.heap.objs.size := by simpa using hb
 subst e
 exact I1.fpOk (Nat.le_refl _) (I1.hok.fresh (Nat.le_refl _))
theorem pi_tup {l : Expr} {tl : TE} (hl : PE X l tl) : PI X tg l (iTup X.K tl) := by
 intro pins s σ H R I h
 refine thn (hl pins s σ H _ I h) fun v s1 ⟨x, H1, I1, r1, q1⟩ => ?_
 obtain ⟨a, e, ⟨xs, hq⟩, q⟩ := q1
 subst e
 cases r1
 obtain ⟨its, rv, p, hz⟩ := I1.tuple hq
 refine wpAny_pyIter_tuple (show s1.heap.IsTuple a its.toArray from p) ?_
 refine ⟨s1.heap.objs.size, [s1.heap.objs.size], _, _, H1, rfl, I1.kept (t' := s1.toks) fun b o e => Heap.get?_push_of_some _ e, turn_tuple a _, ⟨_, Heap.get?_push_size _ rfl, rfl, rfl⟩, fun b hb => ?_, q⟩
 have e : b = s1.heap.objs.size := by simpa using hb
 subst e
 exact I1.fpOk (Nat.le_refl _) (I1.hok.fresh (Nat.le_refl _))
theorem range_it {pins : List (Addr × Obj)} {σ : St} {H : Hp} {s : Shared} {R : It → Hp → Prop} {E : Value → Shared → Prop} {lo hi : Int} {t u v : Tok} {tk : Nat} (I : Inv X pins σ H s) (h1 : -(2 ^ 62) ≤ lo) (h2 : lo < 2 ^ 62) (h3 : -(2 ^ 62) ≤ hi) (h4 : hi < 2 ^ 62)
   (q : R (Itr lo (hi - lo).toNat) H) : wpAny (model X.prog X.w) X.A (pyIter (.ref s.heap.objs.size)) (PIE X pins σ tg R) E { s with heap := s.heap.push { cls := .type "range", data := .fields #[.int lo t, .int hi u, .int 1 v] }, toks := tk } := by
 refine wpAny_pyIter_range (IsRange.new ..) (small_one h1 h2 h3 h4) ?_
 have I1 : Inv X pins σ H { s with heap := s.heap.push { cls := .type "range", data := .fields #[.int lo t, .int hi u, .int 1 v] }, toks := tk } := I.kept fun b o e => Heap.get?_push_of_some _ e
 refine ⟨(s.heap.push { cls := .type "range", data := .fields #[.int lo t, .int hi u, .int 1 v] }).objs.size, [(s.heap.push { cls := .type "range", data := .fields #[.int lo t, .int hi u, .int 1 v] }).objs.size], _, _, H, rfl,
   I1.kept (t' := tk) fun b o e => Heap.get?_push_of_some _ e, turn_range _ lo (hi - lo).toNat, ?_, fun b hb => ?_, q⟩
 · have e1 : lo + ((0 : Nat) : Int) * 1 = lo := by simp
   have e2 : (((hi - lo).toNat : Nat) : Int) - ((0 : Nat) : Int) = Builtin.Range.rangeSize lo hi 1 := by rw [rangeSize_one]; split <;> omega
   show IsRangeIter _ _ (lo + ((0 : Nat) : Int) * 1) ((((hi - lo).toNat : Nat) : Int) - ((0 : Nat) : Int)) 1
   rw [e1, e2]
   exact Heap.get?_push_size _ rfl
 · have e : b = (s.heap.push { cls := .type "range", data := .fields #[.int lo t, .int hi u, .int 1 v] }).objs.size := by simpa using hb
   subst e
   exact I1.fpOk (Nat.le_refl _) (I1.hok.fresh (Nat.le_refl _))
def iRng1 (ta : TA) : TI := fun σ H R => ta σ H fun vs H1 => ∃ j : Int, vs = [.int j] ∧ -(2 ^ 62) ≤ j ∧ j < 2 ^ 62 ∧ R (Itr 0 j.toNat) H1
theorem pi_range1 {a : Expr} {ta : TA} {p pos : Pos} (hg : Gl X "range") (hm : X.mg "range" = none) (ha : PA X [a] ta) (hs : starEach [a] X.env = [(false, eval a X.env)] := by rfl) : PI X tg (.Call (.Name "range" p) [a] [] pos) (iRng1 ta) := by
 intro pins s σ H R I h
 refine Call_ (ld_blt I hg hm boot_range (PyProof.Rows.callWith_type1 (thn (ha pos pins s σ H _ I h) fun us s1 ⟨vs, H1, I1, r1, q1⟩ => ?_) hs rfl))
 obtain ⟨j, e, q1, q2, q⟩ := q1
 subst e
 cases r1 with
 | cons r rr =>
   cases rr
   obtain ⟨t, rfl⟩ := r
   exact call_range_1 (range_it I1 (by omega) (by omega) q1 q2 (by simpa using q))
def tFor (wi : TI) (g : TG) (tb : TS) : TS := fun D σ H => wi σ H fun J H1 => ∃ W : Nat → Nat → St → Hp → Prop, (∃ m, W 0 m σ H1) ∧ ∀ i m σ H, W i m σ H →
 (J.stop i H ∧ D.nx σ H) ∨ (J.go i H ∧ ∃ N : St → Hp → Prop, (∀ σ' H', N σ' H' → ∃ m', m' < m ∧ W (i + 1) m' σ' H') ∧ ∀ x H', J.yld i H x H' → g x σ H' fun σ2 H2 => tb { D with nx := N, ct := N, bk := D.nx } σ2 H2)
def pinsAt (fp : List Addr) (h : Heap) : List (Addr × Obj) := fp.filterMap fun b => (h.get? b).map fun o => (b, o)
theorem mem_pinsAt {fp : List Addr} {h : Heap} {b : Addr} {o : Obj} (hb : b ∈ fp) (e : h.get? b = some o) : (b, o) ∈ pinsAt fp h := List.mem_filterMap.mpr ⟨b, hb, by rw [e]; rfl⟩
theorem of_pinsAt {fp : List Addr} {h : Heap} {p : Addr × Obj} (hp : p ∈ pinsAt fp h) : p.1 ∈ fp ∧ h.get? p.1 = some p.2 := by
 obtain ⟨b, hb, e⟩ := List.mem_filterMap.mp hp
 cases q : h.get? b with
 | none => rw [q] at e; cases e
 | some o =>
   rw [q] at e
   have e' : (b, o) = p := Option.some.inj e
   subst e'
   exact ⟨hb, q⟩
theorem Inv.pinned {pins : List (Addr × Obj)} {σ : St} {H : Hp} {s : Shared} {fp : List Addr} (I : Inv X pins σ H s) (hf : ∀ b ∈ fp, FpOk X pins H b) (ho : ∀ b ∈ fp, ∃ o, s.heap.get? b = some o ∧ ∀ v, o.data ≠ .cell v) : Inv X (pins ++ pinsAt fp s.heap) σ H s :=
 I.pins_of fun p hp => (List.mem_append.mp hp).elim (fun z => I.pin p (List.mem_append_right _ z)) fun z => by
   obtain ⟨hb, e⟩ := of_pinsAt z
   obtain ⟨f0, f1, f2, _⟩ := hf p.1 hb
   obtain ⟨o, e', d⟩ := ho p.1 hb
   rw [e] at e'; cases e'
   exact ⟨e, f0, f1, f2, d⟩
theorem Inv.unpinned {pins pl : List (Addr × Obj)} {σ : St} {H : Hp} {s : Shared} (I : Inv X (pins ++ pl) σ H s) : Inv X pins σ H s := I.pins_of fun p hp => I.pin p (List.mem_append_right _ (List.mem_append_left _ hp))
theorem ps_for {iter : Expr} {body : List Stmt} {wi : TI} {g : TG} {tb : TS} {pos : Pos} (hp : PassesOwn (model X.prog X.w) X.A X.env X.xe) (hc : X.calm = true) (hi : PI X tg iter wi) (hg : PG X tg g) (hb : PSs X body tb)
   (hs : ∀ x, foldedSetIterable iter X.env x = pure x := by intro _; rfl) : PS X (.For tg iter body [] pos) (tFor wi g tb) := by
 intro pins s σ H D I h
 refine wpAny_For (thn (hi pins s σ H _ I h) fun v s1 h1 => thn h1 fun itv s2 h2 => ?_) hs
 obtain ⟨it, fp, tn, J, H2, e, I2, T, st2, f2, W, ⟨m0, w0⟩, turn⟩ := h2
 subst e
 -- what stays true of the iterator's objects through the loop
 have stat : ∀ {H' : Hp}, (∀ b ∈ fp, H' b = none) → ∀ b ∈ fp, FpOk X pins H' b := fun hn b hb => ⟨hn b hb, (f2 b hb).2⟩
 refine codeAny_forLoop_any (fun n s' => ∃ i σ' H', Inv X pins σ' H' s' ∧ tn i s'.heap ∧ (∀ b ∈ fp, H' b = none) ∧ W i n σ' H') ?_ m0 ⟨0, σ, H2, I2, st2, fun b hb => (f2 b hb).1, w0⟩
 rintro n s3 ⟨i, σ3, H3, I3, st3, fr3, w3⟩
 rcases turn i n σ3 H3 w3 with ⟨stop, qn⟩ | ⟨go, N, hN, step⟩
 · refine wpAny_passesOwn hp (thn (T.done X rfl rfl rfl hc i pins s3 σ3 H3 X.xe I3 (stat fr3) st3 stop) fun r s4 ⟨hr, I4⟩ => ?_)
   subst hr
   exact wpAny_execs_nil ⟨σ3, H3, I4, qn⟩
 · refine wpAny_passesOwn hp (thn (T.item X rfl rfl rfl hc i pins s3 σ3 H3 X.xe I3 (stat fr3) st3 go) fun r s4 ⟨u, hr, h4⟩ => ?_)
   subst hr
   refine wpAny_passesOwn hp (thn h4 fun _ s5 ⟨x, H5, I5, r5, y5, st5, fr5⟩ => ?_)
   have I5' := I5.pinned (stat fr5) (T.obj _ _ st5)
   refine wpAny_passesOwn hp (thn (hg _ s5 σ3 H5 x u _ I5' r5 (step x H5 y5)) fun _ s6 ⟨σ6, H6, I6, q6⟩ => ?_)
   refine wpAny_passesOwn hp (thn (hb _ s6 σ6 H6 _ I6 q6) fun f s7 q7 => ?_)
   have again : ∀ {σ7 : St} {H7 : Hp}, Inv X (pins ++ pinsAt fp s5.heap) σ7 H7 s7 → N σ7 H7 → ∃ m, m < n ∧ ∃ i σ' H', Inv X pins σ' H' s7 ∧ tn i s7.heap ∧ (∀ b ∈ fp, H' b = none) ∧ W i m σ' H' := fun {σ7 H7} I7 n7 => by
     obtain ⟨m', hm, w7⟩ := hN σ7 H7 n7
     refine ⟨m', hm, i + 1, σ7, H7, I7.unpinned, T.keep _ _ _ st5 fun b hb o e => (I7.pin (b, o) (List.mem_append_right _ (List.mem_append_right _ (mem_pinsAt hb e)))).1, fun b hb => ?_, w7⟩
     obtain ⟨o, e, d⟩ := T.obj _ _ st5 b hb
     exact (I7.pin (b, o) (List.mem_append_right _ (List.mem_append_right _ (mem_pinsAt hb e)))).2.1
   cases f with
   | next => obtain ⟨σ7, H7, I7, n7⟩ := q7; exact again I7 n7
   | cont => obtain ⟨σ7, H7, I7, n7⟩ := q7; exact again I7 n7
   | brk => obtain ⟨σ7, H7, I7, q7⟩ := q7; exact ⟨σ7, H7, I7.unpinned, q7⟩
   | ret v => obtain ⟨x7, σ7, H7, I7, r7, q7⟩ := q7; exact ⟨x7, σ7, H7, I7.unpinned, r7, q7⟩
end
theorem for_list {K : PySem.W.Frag} {a : Addr} {xs : List V} {g : TG} {tb : TS} {D : Ends} {σ : St} {H : Hp} (Pv : Nat → St → Hp → Prop) (h0 : Pv 0 σ H) (hl : ∀ i σ H, i ≤ xs.length → Pv i σ H → SqL K H a xs)
   (hs : ∀ i x σ H, xs[i]? = some x → Pv i σ H → g x σ H fun σ2 H2 => tb { D with nx := Pv (i + 1), ct := Pv (i + 1), bk := D.nx } σ2 H2) (hd : ∀ σ H, Pv xs.length σ H → D.nx σ H) :
   ∃ W : Nat → Nat → St → Hp → Prop, (∃ m, W 0 m σ H) ∧ ∀ i m σ H, W i m σ H →
     ((Itl K a).stop i H ∧ D.nx σ H) ∨ ((Itl K a).go i H ∧ ∃ N : St → Hp → Prop, (∀ σ' H', N σ' H' → ∃ m', m' < m ∧ W (i + 1) m' σ' H') ∧ ∀ x H', (Itl K a).yld i H x H' → g x σ H' fun σ2 H2 => tb { D with nx := N, ct := N, bk := D.nx } σ2 H2) := by
 refine ⟨fun i m σ H => m = xs.length - i ∧ i ≤ xs.length ∧ Pv i σ H, ⟨xs.length, by simp, Nat.zero_le _, h0⟩, ?_⟩
 rintro i m σ H ⟨rfl, hi, p⟩
 have q := hl i σ H hi p
 by_cases hlt : i < xs.length
 · refine .inr ⟨⟨xs, xs[i], q, by simp [hlt]⟩, Pv (i + 1), fun σ' H' p' => ⟨xs.length - (i + 1), by omega, rfl, hlt, p'⟩, fun x H' y => ?_⟩
   obtain ⟨e, y⟩ := y
   subst e
   exact hs i x σ _ (y xs q) p
 · have e : i = xs.length := by omega
   subst e
   exact .inl ⟨⟨xs, q, Nat.le_refl _⟩, hd σ H p⟩
end L2
namespace L2
open PySem PySem.Spec PyProof.Rows
abbrev R2 := V → V → Hp → VK → Prop
def OpR (X : Cx) (f : Value → Value → Sem Value) (r : R2) : Prop :=
 ∀ (pins : List (Addr × Obj)) (s : Shared) (σ : St) (H : Hp) (x y : V) (v u : Value) (Q : VK), Inv X pins σ H s → RelV x v → RelV y u → r x y H Q →
   wpAny (model X.prog X.w) X.A (f v u) (EP X pins σ Q) X.xe s
def UnR (X : Cx) (f : Value → Sem Value) (r : V → Hp → VK → Prop) : Prop :=
 ∀ (pins : List (Addr × Obj)) (s : Shared) (σ : St) (H : Hp) (x : V) (v : Value) (Q : VK), Inv X pins σ H s → RelV x v → r x H Q →
   wpAny (model X.prog X.w) X.A (f v) (EP X pins σ Q) X.xe s
def CallR (X : Cx) (f : Value) (r : List V → Hp → VK → Prop) : Prop :=
 ∀ (pins : List (Addr × Obj)) (s : Shared) (σ : St) (H : Hp) (xs : List V) (us : List Value) (Q : VK), Inv X pins σ H s → Vals xs us → r xs H Q →
   wpAny (model X.prog X.w) X.A (call f us) (EP X pins σ Q) X.xe s
def TruR (X : Cx) (r : V → Hp → (Bool → Hp → Prop) → Prop) : Prop :=
 ∀ (pins : List (Addr × Obj)) (s : Shared) (σ : St) (H : Hp) (x : V) (v : Value) (Q : Bool → Hp → Prop), Inv X pins σ H s → RelV x v → r x H Q →
   wpAny (model X.prog X.w) X.A (truthy v) (TP X pins σ Q) X.xe s
def tOp (r : R2) (ta tb : TE) : TE := fun σ H Q => ta σ H fun x H1 => tb σ H1 fun y H2 => r x y H2 Q
def tUn (r : V → Hp → VK → Prop) (ta : TE) : TE := fun σ H Q => ta σ H fun x H1 => r x H1 Q
def rI (C : Int → Int → Prop) (g : Int → Int → V) : R2 := fun x y H Q => ∃ i j, x = .int i ∧ y = .int j ∧ C i j ∧ Q (g i j) H
def rI0 (g : Int → Int → V) : R2 := fun x y H Q => ∃ i j, x = .int i ∧ y = .int j ∧ Q (g i j) H
def rU (g : Int → V) : V → Hp → VK → Prop := fun x H Q => ∃ i, x = .int i ∧ Q (g i) H
section
variable {X : Cx} {a b c : Expr} {ta tb tc : TE} {pos : Pos}
theorem binT (ha : PE X a ta) (hb : PE X b tb) {pins : List (Addr × Obj)} {s : Shared} {σ : St} {H : Hp} {R : V → V → Hp → Prop} (I : Inv X pins σ H s)
   (h : ta σ H fun x H1 => tb σ H1 fun y H2 => R x y H2) {Q : Value → Shared → Prop} {f : Value → Value → Sem Value}
   (hf : ∀ v u s2 x y H2, Inv X pins σ H2 s2 → RelV x v → RelV y u → R x y H2 → wpAny (model X.prog X.w) X.A (f v u) Q X.xe s2) :
   wpAny (model X.prog X.w) X.A (eval a X.env) (fun v s₁ => wpAny (model X.prog X.w) X.A (eval b X.env) (fun u s₂ => wpAny (model X.prog X.w) X.A (f v u) Q X.xe s₂) X.xe s₁) X.xe s := by
 refine thn (ha pins s σ H _ I h) fun v s1 ⟨x, H1, I1, r1, q1⟩ => ?_
 refine thn (hb pins s1 σ H1 _ I1 q1) fun u s2 ⟨y, H2, I2, r2, q2⟩ => ?_
 exact hf v u s2 x y H2 I2 r1 r2 q2
theorem pe_op {op : Operator} {r : R2} (ho : OpR X (binaryOp op) r) (ha : PE X a ta) (hb : PE X b tb) : PE X (.BinOp a op b pos) (tOp r ta tb) := by
 intro pins s σ H Q I h
 exact wpAny_BinOp (binT ha hb I h fun v u s2 x y H2 I2 rx ry q => ho pins s2 σ H2 x y v u Q I2 rx ry q)
theorem pe_un {op : UnaryOp} {r : V → Hp → VK → Prop} (ho : UnR X (unaryOp op) r) (ha : PE X a ta) : PE X (.UnaryOp op a pos) (tUn r ta) := by
 intro pins s σ H Q I h
 exact UnaryOp_ (thn (ha pins s σ H _ I h) fun v s1 ⟨x, H1, I1, r1, q1⟩ => ho pins s1 σ H1 x v Q I1 r1 q1)
theorem opI {f : Value → Value → Sem Value} {C : Int → Int → Prop} {g : Int → Int → Int}
   (rule : ∀ (i j : Int) (t u : Tok) (s : Shared) (Q : Value → Shared → Prop) (E : Value → Shared → Prop), C i j → Q (.int (g i j) s.toks) { s with toks := s.toks + 1 } → wpAny (model X.prog X.w) X.A (f (.int i t) (.int j u)) Q E s) :
   OpR X f (rI C fun i j => .int (g i j)) := by
 intro pins s σ H x y v u Q I rx ry h
 obtain ⟨i, j, rfl, rfl, hc, q⟩ := h
 obtain ⟨t, rfl⟩ := rx
 obtain ⟨t', rfl⟩ := ry
 exact rule i j t t' s _ _ hc ⟨.int (g i j), H, I.tok _, ⟨_, rfl⟩, q⟩
theorem opI0 {f : Value → Value → Sem Value} {g : Int → Int → Int}
   (rule : ∀ (i j : Int) (t u : Tok) (s : Shared) (Q : Value → Shared → Prop) (E : Value → Shared → Prop), Q (.int (g i j) s.toks) { s with toks := s.toks + 1 } → wpAny (model X.prog X.w) X.A (f (.int i t) (.int j u)) Q E s) :
   OpR X f (rI0 fun i j => .int (g i j)) := by
 intro pins s σ H x y v u Q I rx ry h
 obtain ⟨i, j, rfl, rfl, q⟩ := h
 obtain ⟨t, rfl⟩ := rx
 obtain ⟨t', rfl⟩ := ry
 exact rule i j t t' s _ _ ⟨.int (g i j), H, I.tok _, ⟨_, rfl⟩, q⟩
theorem opB0 {f : Value → Value → Sem Value} {g : Int → Int → Bool}
   (rule : ∀ (i j : Int) (t u : Tok) (s : Shared) (Q : Value → Shared → Prop) (E : Value → Shared → Prop), Q (.bool (g i j)) s → wpAny (model X.prog X.w) X.A (f (.int i t) (.int j u)) Q E s) :
   OpR X f (rI0 fun i j => .bl (g i j)) := by
 intro pins s σ H x y v u Q I rx ry h
 obtain ⟨i, j, rfl, rfl, q⟩ := h
 obtain ⟨t, rfl⟩ := rx
 obtain ⟨t', rfl⟩ := ry
 exact rule i j t t' s _ _ ⟨.bl (g i j), H, I, rfl, q⟩
def CDiv (i j : Int) : Prop := 0 < j ∧ j < 1073741824
def CPow (i j : Int) : Prop := 0 ≤ j ∧ j ≤ 1000000 ∧ i.natAbs < 2 ^ 64
def CMul (i j : Int) : Prop := (-(2 ^ 64) < i ∧ i < 2 ^ 64) ∨ (-(2 ^ 64) < j ∧ j < 2 ^ 64)
theorem CMul.ok {i j : Int} (h : CMul i j) : IntMulOk i j := by
 rcases h with ⟨h1, h2⟩ | ⟨h1, h2⟩
 · exact .of_left (intBits_le_64 h1 h2)
 · exact .of_right (intBits_le_64 h1 h2)
theorem op_add : OpR X (binaryOp .Add) (rI0 fun i j => .int (i + j)) := opI0 fun _ _ _ _ _ _ _ q => add_int q
theorem op_sub : OpR X (binaryOp .Sub) (rI0 fun i j => .int (i - j)) := opI0 fun _ _ _ _ _ _ _ q => sub_int q
theorem op_mul : OpR X (binaryOp .Mult) (rI CMul fun i j => .int (i * j)) := opI fun _ _ _ _ _ _ _ hc q => mul_int q hc.ok
theorem op_fdiv : OpR X (binaryOp .FloorDiv) (rI CDiv fun i j => .int (i / j)) := opI fun i j _ _ _ _ _ hc q => by
 have h1 : (0 : Int) < j := hc.1
 have h2 : j < 1073741824 := hc.2
 exact floordiv_int (by omega) (by rw [Int.fdiv_eq_ediv_of_nonneg i (by omega)]; exact q) (.inl (PyProof.noPylong_small (by omega)))
theorem op_mod : OpR X (binaryOp .Mod) (rI (fun _ j => 0 < j) fun i j => .int (i % j)) := opI fun i j _ _ _ _ _ hc q => by
 have h1 : (0 : Int) < j := hc
 exact mod_int' (by omega) (by rw [Int.fmod_eq_emod_of_nonneg i (by omega)]; exact q)
theorem op_pow : OpR X (binaryOp .Pow) (rI CPow fun i j => .int (i ^ j.toNat)) := opI fun _ _ _ _ _ _ _ hc q => pow_int_small hc.1 hc.2.1 hc.2.2 q
theorem unI {f : Value → Sem Value} {g : Int → Int}
   (rule : ∀ (i : Int) (t : Tok) (s : Shared) (Q : Value → Shared → Prop) (E : Value → Shared → Prop), Q (.int (g i) s.toks) { s with toks := s.toks + 1 } → wpAny (model X.prog X.w) X.A (f (.int i t)) Q E s) :
   UnR X f (rU fun i => .int (g i)) := by
 intro pins s σ H x v Q I rx h
 obtain ⟨i, rfl, q⟩ := h
 obtain ⟨t, rfl⟩ := rx
 exact rule i t s _ _ ⟨.int (g i), H, I.tok _, ⟨_, rfl⟩, q⟩
theorem un_neg : UnR X (unaryOp .USub) (rU fun i => .int (-i)) := unI fun _ _ _ _ _ q => neg_int q
end
def scal : V → V → Bool
 | .non, .non => true | .non, .int _ => true | .int _, .non => true | .non, .bl _ => true | .bl _, .non => true | .non, .str _ => true | .str _, .non => true
 | .int _, .int _ => true | .bl _, .bl _ => true | .str _, .str _ => true | .byt _, .byt _ => true
 | .int _, .str _ => true | .str _, .int _ => true | .bl _, .str _ => true | .str _, .bl _ => true
 | _, _ => false
def rEq : R2 := fun x y H Q => scal x y = true ∧ Q (.bl (decide (x = y))) H
theorem dec_int {i j : Int} : decide (V.int i = V.int j) = (i == j) := by
 rw [Bool.eq_iff_iff]
 simp
theorem dec_bl {i j : Bool} : decide (V.bl i = V.bl j) = (i == j) := by
 rw [Bool.eq_iff_iff]
 simp
theorem dec_str {i j : Str} : decide (V.str i = V.str j) = (i == j) := by
 rw [Bool.eq_iff_iff]
 simp
theorem dec_byt {i j : Array UInt8} : decide (V.byt i = V.byt j) = (i.toList == j.toList) := by
 rw [Bool.eq_iff_iff]
 cases i
 cases j
 simp
section
variable {X : Cx} {a b c : Expr} {ta tb tc : TE} {pos : Pos}
theorem fin_bl {pins : List (Addr × Obj)} {σ : St} {H : Hp} {s : Shared} {Q : VK} {k k' : Bool} (I : Inv X pins σ H s) (q : Q (.bl k) H) (e : k = k') : EP X pins σ Q (.bool k') s := by
 subst e
 exact ⟨.bl k, H, I, rfl, q⟩
theorem op_eq : OpR X (compareOp .Eq) rEq := by
 intro pins s σ H x y v u Q I rx ry h
 obtain ⟨hs, q⟩ := h
 cases x with
 | non =>
   cases rx
   cases y with
   | non => cases ry; exact PySem.EqNone.eq_none_none (fin_bl I q (by simp))
   | bl j => cases ry; exact PySem.EqNone.eq_none_bool (fin_bl I q (by simp))
   | int j => obtain ⟨t', rfl⟩ := ry; exact PySem.EqNone.eq_none_int (fin_bl I q (by simp))
   | str j => obtain ⟨t', rfl⟩ := ry; exact PySem.EqNone.eq_none_str (fin_bl I q (by simp))
   | _ => exact absurd (show false = true from hs) Bool.false_ne_true
 | bl i =>
   cases rx
   cases y with
   | non => cases ry; exact PySem.EqNone.eq_bool_none (fin_bl I q (by simp))
   | bl j => cases ry; exact eq_bool (fin_bl I q dec_bl)
   | str j => obtain ⟨t', rfl⟩ := ry; exact PySem.EqMixed.eq_bool_str (fin_bl I q (by simp))
   | _ => exact absurd (show false = true from hs) Bool.false_ne_true
 | int i =>
   obtain ⟨t, rfl⟩ := rx
   cases y with
   | non => cases ry; exact PySem.EqNone.eq_int_none (fin_bl I q (by simp))
   | int j => obtain ⟨t', rfl⟩ := ry; exact eq_int (fin_bl I q dec_int)
   | str j => obtain ⟨t', rfl⟩ := ry; exact PySem.EqMixed.eq_int_str (fin_bl I q (by simp))
   | _ => exact absurd (show false = true from hs) Bool.false_ne_true
 | str i =>
   obtain ⟨t, rfl⟩ := rx
   cases y with
   | non => cases ry; exact PySem.EqNone.eq_str_none (fin_bl I q (by simp))
   | bl j => cases ry; exact PySem.EqMixed.eq_str_bool (fin_bl I q (by simp))
   | int j => obtain ⟨t', rfl⟩ := ry; exact PySem.EqMixed.eq_str_int (fin_bl I q (by simp))
   | str j => obtain ⟨t', rfl⟩ := ry; exact eq_str (fin_bl I q dec_str)
   | _ => exact absurd (show false = true from hs) Bool.false_ne_true
 | byt i =>
   obtain ⟨t, rfl⟩ := rx
   cases y with
   | byt j => obtain ⟨t', rfl⟩ := ry; exact PySem.W.eq_bytes (fin_bl I q dec_byt)
   | _ => exact absurd (show false = true from hs) Bool.false_ne_true
 | _ => cases y <;> exact absurd (show false = true from hs) Bool.false_ne_true
theorem op_lt : OpR X (compareOp .Lt) (rI0 fun i j => .bl (decide (i < j))) := opB0 fun _ _ _ _ _ _ _ q => lt_int q
theorem op_le : OpR X (compareOp .LtE) (rI0 fun i j => .bl (decide (i ≤ j))) := opB0 fun _ _ _ _ _ _ _ q => le_int q
theorem op_gt : OpR X (compareOp .Gt) (rI0 fun i j => .bl (decide (j < i))) := opB0 fun _ _ _ _ _ _ _ q => gt_int q
theorem op_ge : OpR X (compareOp .GtE) (rI0 fun i j => .bl (decide (j ≤ i))) := opB0 fun _ _ _ _ _ _ _ q => ge_int q
theorem op_in_str : OpR X (compareOp .In) (fun x y H Q => ∃ i j, x = .str i ∧ y = .str j ∧ Q (.bl (!(Builtin.Str.occurrences j i 0 j.length 1).isEmpty)) H) := by
 intro pins s σ H x y v u Q I rx ry h
 obtain ⟨i, j, rfl, rfl, q⟩ := h
 obtain ⟨t, rfl⟩ := rx
 obtain ⟨t', rfl⟩ := ry
 exact in_str (fin_bl I q rfl)
theorem op_isN : OpR X (compareOp .Is) (fun x y H Q => y = .non ∧ Q (.bl (decide (x = .non))) H) := by
 intro pins s σ H x y v u Q I rx ry h
 obtain ⟨rfl, q⟩ := h
 cases ry
 refine is_none_gen (fin_bl I q ?_)
 cases x <;> first
   | (cases rx; rfl)
   | (obtain ⟨t, rfl⟩ := rx; rfl)
theorem OpR.or {f : Value → Value → Sem Value} {r r' : R2} (h : OpR X f r) (h' : OpR X f r') : OpR X f (fun x y H Q => r x y H Q ∨ r' x y H Q) := by
 intro pins s σ H x y v u Q I rx ry q
 rcases q with q | q
 · exact h pins s σ H x y v u Q I rx ry q
 · exact h' pins s σ H x y v u Q I rx ry q
theorem nomark (b : Expr) {op : CmpOp} (h : op ≠ .In := by decide) (h2 : op ≠ .NotIn := by decide) : behindInMarks op b = false := by
 have e1 : (op == CmpOp.In) = false := by cases op <;> first | rfl | exact absurd rfl h
 have e2 : (op == CmpOp.NotIn) = false := by cases op <;> first | rfl | exact absurd rfl h2
 cases b <;> simp [behindInMarks, e1, e2]
theorem pe_cmpR {op : CmpOp} {r : R2} (ho : OpR X (compareOp op) r) (ha : PE X a ta) (hb : PE X b tb) (hm : behindInMarks op b = false) : PE X (.Compare a [op] [b] pos) (tOp r ta tb) := by
 intro pins s σ H Q I h
 exact wpAny_Compare1 (binT ha hb I h fun v u s2 x y H2 I2 rx ry q => ho pins s2 σ H2 x y v u Q I2 rx ry q) hm
def tTest (t : TE) : TT := fun σ H Q => t σ H fun x H' => ∃ k, x = .bl k ∧ Q k H'
theorem pt_cmpR {op : CmpOp} {r : R2} (ho : OpR X (compareOp op) r) (ha : PE X a ta) (hb : PE X b tb) (hm : behindInMarks op b = false) : PT X (.Compare a [op] [b] pos) (tTest (tOp r ta tb)) := by
 intro pins s σ H Q I h
 refine wpAny_isTrue_Compare1 (thn (ha pins s σ H _ I h) fun v s1 ⟨x, H1, I1, r1, q1⟩ => thn (hb pins s1 σ H1 _ I1 q1) fun u s2 ⟨y, H2, I2, r2, q2⟩ =>
   thn (ho pins s2 σ H2 x y v u _ I2 r1 r2 q2) fun c s3 ⟨z, H3, I3, r3, k, e, q3⟩ => ?_) hm
 subst e
 cases r3
 exact wpAny_truthy_bool ⟨H3, I3, q3⟩
def tChain (r r' : R2) (ta tb tc : TE) : TE := fun σ H Q => ta σ H fun x H1 => tb σ H1 fun y H2 => r x y H2 fun z H3 => ∃ k, z = .bl k ∧
 (if k = true then tc σ H3 fun w' H4 => r' y w' H4 Q else Q (.bl false) H3)
theorem pe_chain {op op' : CmpOp} {r r' : R2} (ho : OpR X (compareOp op) r) (ho' : OpR X (compareOp op') r') (ha : PE X a ta) (hb : PE X b tb) (hc : PE X c tc)
   (hm : lastMarks [op, op'] [b, c] = false := by with_unfolding_all rfl) : PE X (.Compare a [op, op'] [b, c] pos) (tChain r r' ta tb tc) := by
 intro pins s σ H Q I h
 refine Compare_chain (thn (ha pins s σ H _ I h) fun v s1 ⟨x, H1, I1, r1, q1⟩ => chain_link (thn (hb pins s1 σ H1 _ I1 q1) fun u s2 ⟨y, H2, I2, r2, q2⟩ =>
   thn (ho pins s2 σ H2 x y v u _ I2 r1 r2 q2) fun d s3 ⟨z, H3, I3, r3, k, e, q3⟩ => ?_)) hm
 subst e
 cases r3
 refine wpAny_truthy_bool ?_
 cases k with
 | false => exact ite_ff ⟨.bl false, H3, I3, rfl, q3⟩
 | true => exact ite_tt (chain_last (thn (hc pins s3 σ H3 _ I3 q3) fun w' s4 ⟨z', H4, I4, r4, q4⟩ => ho' pins s4 σ H4 y z' u w' Q I4 r2 r4 q4))
def TruV (K : PySem.W.Frag) (x : V) (H : Hp) (k : Bool) : Prop :=
 match x with
 | .non => k = false
 | .bl b => k = b
 | .int i => k = (i != 0)
 | .str y => y.length ≤ sizeLine ∧ k = ((y.length : Int) != 0)
 | .byt y => y.size ≤ sizeLine ∧ k = ((y.size : Int) != 0)
 | .ref p => (∃ xs, SqL K H p xs ∧ k = !xs.isEmpty) ∨ (∃ xs, SqT K H p xs ∧ k = !xs.isEmpty) ∨ ∃ kvs, H p = some (.dK kvs) ∧ k = !kvs.isEmpty
 | _ => False
theorem isEmpty_kv {κ : Type} {kvs : List (κ × V)} {vs : List (κ × Value)} (r : KV kvs vs) : (!vs.isEmpty) = !kvs.isEmpty := by
 cases r <;> rfl
theorem isEmpty_of {xs : List V} {its : List Value} (r : Vals xs its) : (!its.toArray.isEmpty) = !xs.isEmpty := by
 cases r <;> simp
theorem line63 : (sizeLine : Nat) < 2 ^ 63 := by rw [sizeLine_eq]; decide
theorem tru_ok : TruR X (fun x H Q => ∃ k, TruV X.K x H k ∧ Q k H) := by
 intro pins s σ H x v Q I rx h
 obtain ⟨k, e, q⟩ := h
 have hl := line63
 have hs : sizeLine = 16777216 := sizeLine_eq
 cases x with
 | non =>
   cases rx
   have e' : k = false := e
   subst e'
   exact truthy_none ⟨H, I, q⟩
 | bl b =>
   cases rx
   have e' : k = b := e
   subst e'
   exact wpAny_truthy_bool ⟨H, I, q⟩
 | int i =>
   obtain ⟨t, rfl⟩ := rx
   have e' : k = (i != 0) := e
   subst e'
   exact PySem.P.truthy_int ⟨H, I, q⟩
 | str y =>
   obtain ⟨t, rfl⟩ := rx
   obtain ⟨hy, e'⟩ : y.length ≤ sizeLine ∧ k = ((y.length : Int) != 0) := e
   subst e'
   exact PySem.P.truthy_str (by omega) ⟨H, I.tok _, q⟩
 | byt y =>
   obtain ⟨t, rfl⟩ := rx
   obtain ⟨hy, e'⟩ : y.size ≤ sizeLine ∧ k = ((y.size : Int) != 0) := e
   subst e'
   exact PySem.W.truthy_bytes (by omega) ⟨H, I.tok _, q⟩
 | ref p =>
   cases rx
   have e' : (∃ xs, SqL X.K H p xs ∧ k = !xs.isEmpty) ∨ (∃ xs, SqT X.K H p xs ∧ k = !xs.isEmpty) ∨ ∃ kvs, H p = some (.dK kvs) ∧ k = !kvs.isEmpty := e
   rcases e' with ⟨xs, hx, e'⟩ | ⟨xs, hx, e'⟩ | ⟨kvs, hx, e'⟩
   · subst e'
     obtain ⟨its, r, pl, hz⟩ := I.list hx
     have hlen := r.length
     exact wpAny_truthy_list pl.isList (by simp only [List.size_toArray]; omega) ⟨H, I.tok _, by rw [isEmpty_of r]; exact q⟩
   · subst e'
     obtain ⟨its, r, pl, hz⟩ := I.tuple hx
     have hlen := r.length
     exact truthy_tuple pl (by simp only [List.size_toArray]; omega) ⟨H, I.tok _, by rw [isEmpty_of r]; exact q⟩
   · subst e'
     obtain ⟨hz, hS, vs, r, m⟩ : kvs.length ≤ sizeLine ∧ (p == sysModules) = false ∧ ∃ vs, KV kvs vs ∧ s.heap.DictOf (mixKind X.prog X.w) p vs := I.hok p _ hx
     have hlen : kvs.length = vs.length := Paired.length r
     exact wpAny_truthy_dict hS m (by omega) ⟨H, I.tok _, by rw [isEmpty_kv r]; exact q⟩
 | _ => exact (show False from e).elim
theorem pt_truth (ha : PE X a ta) (he : ∀ whole, isTrue a X.env whole = (do let v ← whole; standAt a.pos; holding [v] (truthy v))) :
   PT X a (fun σ H Q => ta σ H fun x H' => ∃ k, TruV X.K x H' k ∧ Q k H') := by
 intro pins s σ H Q I h
 exact isTrue_plain (thn (ha pins s σ H _ I h) fun v s1 ⟨x, H1, I1, r1, q1⟩ => tru_ok pins s1 σ H1 x v Q I1 r1 q1) (he _)
theorem op_add_str : OpR X (binaryOp .Add) (fun x y H Q => ∃ i j, x = .str i ∧ y = .str j ∧ i.length + j.length ≤ sizeLine ∧ Q (.str (i ++ j)) H) := by
 intro pins s σ H x y v u Q I rx ry h
 obtain ⟨i, j, rfl, rfl, hz, q⟩ := h
 obtain ⟨t, rfl⟩ := rx
 obtain ⟨t', rfl⟩ := ry
 exact add_str (fun t' tk => ⟨.str (i ++ j), H, I.tok _, ⟨_, rfl⟩, q⟩) hz
theorem vals1 {x : V} {us : List Value} (r : Vals [x] us) : ∃ u, us = [u] ∧ RelV x u := by
 cases r with
 | cons r1 r2 => cases r2; exact ⟨_, rfl, r1⟩
theorem vals2 {x y : V} {us : List Value} (r : Vals [x, y] us) : ∃ u w', us = [u, w'] ∧ RelV x u ∧ RelV y w' := by
 cases r with
 | cons r1 r2 =>
   cases r2 with
   | cons r3 r4 => cases r4; exact ⟨_, _, rfl, r1, r3⟩
theorem call_max2 (hc : X.calm = true) : CallR X (.builtin "max") (fun xs H Q => ∃ i j, xs = [.int i, .int j] ∧ Q (.int (if j > i then j else i)) H) := by
 intro pins s σ H xs us Q I r h
 obtain ⟨i, j, rfl, q⟩ := h
 obtain ⟨u, w', rfl, ⟨t, rfl⟩, ⟨t', rfl⟩⟩ := vals2 r
 refine max_two_ints (I.ok.hd hc) fun h' tk k => ⟨_, H, I.kept k, ?_, q⟩
 by_cases hj : j > i
 · rw [if_pos hj, if_pos hj]; exact ⟨_, rfl⟩
 · rw [if_neg hj, if_neg hj]; exact ⟨_, rfl⟩
theorem call_int1 : CallR X (.type "int") (fun xs H Q => (∃ i, xs = [.int i] ∧ Q (.int i) H) ∨ ∃ k, xs = [.bl k] ∧ Q (.int (if k then 1 else 0)) H) := by
 intro pins s σ H xs us Q I r h
 rcases h with ⟨i, rfl, q⟩ | ⟨k, rfl, q⟩
 · obtain ⟨u, rfl, t, rfl⟩ := vals1 r
   exact call_int_int ⟨.int i, H, I, ⟨_, rfl⟩, q⟩
 · obtain ⟨u, rfl, r1⟩ := vals1 r
   cases r1
   exact call_int_bool ⟨.int (if k then 1 else 0), H, I.tok _, ⟨_, rfl⟩, q⟩
def LenV (K : PySem.W.Frag) (x : V) (H : Hp) (n : Nat) : Prop :=
 match x with
 | .str y => y.length ≤ sizeLine ∧ n = y.length
 | .byt y => y.size ≤ sizeLine ∧ n = y.size
 | .ref p => (∃ xs, SqL K H p xs ∧ n = xs.length) ∨ ∃ xs, SqT K H p xs ∧ n = xs.length
 | _ => False
theorem call_len : CallR X (.builtin "len") (fun xs H Q => ∃ x n, xs = [x] ∧ LenV X.K x H n ∧ Q (.int n) H) := by
 intro pins s σ H xs us Q I r h
 obtain ⟨x, n, rfl, e, q⟩ := h
 obtain ⟨u, rfl, rx⟩ := vals1 r
 have hl := line63
 have hs : sizeLine = 16777216 := sizeLine_eq
 cases x with
 | str y =>
   obtain ⟨t, rfl⟩ := rx
   obtain ⟨hy, e'⟩ : y.length ≤ sizeLine ∧ n = y.length := e
   subst e'
   exact len_str (by omega) ⟨.int _, H, I.tok _, ⟨_, rfl⟩, q⟩
 | byt y =>
   obtain ⟨t, rfl⟩ := rx
   obtain ⟨hy, e'⟩ : y.size ≤ sizeLine ∧ n = y.size := e
   subst e'
   exact PySem.W.len_bytes (by omega) ⟨.int _, H, I.tok _, ⟨_, rfl⟩, q⟩
 | ref p =>
   cases rx
   have e' : (∃ xs, SqL X.K H p xs ∧ n = xs.length) ∨ ∃ xs, SqT X.K H p xs ∧ n = xs.length := e
   rcases e' with ⟨xs, hx, e'⟩ | ⟨xs, hx, e'⟩
   · subst e'
     obtain ⟨its, r', pl, hz⟩ := I.list hx
     have hlen := r'.length
     exact Calls.call_len_list pl.isList (by simp only [List.size_toArray]; omega) ⟨.int xs.length, H, I.tok _, ⟨_, by simp only [List.size_toArray]; rw [hlen]⟩, q⟩
   · subst e'
     obtain ⟨its, r', pl, hz⟩ := I.tuple hx
     have hlen := r'.length
     exact len_tuple pl (by simp only [List.size_toArray]; omega) ⟨.int xs.length, H, I.tok _, ⟨_, by simp only [List.size_toArray]; rw [hlen]⟩, q⟩
 | _ => exact (show False from e).elim
end
end L2
namespace L2
open PySem PySem.Spec PyProof.Rows
structure ObjM (h : Heap) (x dx C : Addr) (mA : Str → Option Value) : Prop where
 obj : h.get? x = some (PySem.W.instObj C dx)
 ns : h.Ns1 dx mA
 ne : dx ≠ x
theorem lookIn_ns {h : Heap} {dx : Addr} {mA : Str → Option Value} (n : h.Ns1 dx mA) : ∃ od, h.get? dx = some od ∧ ∀ name, PySem.W.lookIn name od = some (mA name) := by
 obtain ⟨o, es, ep, ho, hd, hk, _, hm⟩ := n
 refine ⟨o, ho, fun name => ?_⟩
 have e := hm name
 unfold nsFind findBy at e
 rw [← Array.find?_toList] at e
 unfold PySem.W.lookIn
 rw [hd]
 dsimp only
 split
 · rename_i y q
   rw [q] at e
   exact congrArg some e
 · rename_i q
   rw [q] at e
   have a : es.toList.any (·.refKey) = false := by
     rw [List.any_eq_false]
     intro y hy
     obtain ⟨z, t, hkey⟩ := hk y (Array.mem_toList_iff.mp hy)
     simp [DictEntry.refKey, hkey]
   have a' : ¬ es.toList.any (·.refKey) = true := by rw [a]; exact Bool.false_ne_true
   rw [if_neg a']
   exact congrArg some e
theorem ObjM.look {h : Heap} {x dx C : Addr} {mA : Str → Option Value} (I : ObjM h x dx C mA) : ∃ od, PySem.W.InstAt h x (PySem.W.instObj C dx) C (some od) ∧ ∀ name, PySem.W.lookIn name od = some (mA name) :=
 let ⟨od, ho, hl⟩ := lookIn_ns I.ns
 ⟨od, ⟨I.obj, rfl, rfl, ho⟩, hl⟩
def putF (f : Str) (v : V) : List (Str × V) → List (Str × V)
 | [] => [(f, v)]
 | (g, x) :: r => if g = f then (g, v) :: r else (g, x) :: putF f v r
theorem lookup_putF (f g : Str) (v : V) : ∀ fs : List (Str × V), (putF f v fs).lookup g = if g = f then some v else fs.lookup g
 | [] => by
   show List.lookup g [(f, v)] = _
   by_cases h : g = f
   · have hb : (g == f) = true := beq_iff_eq.mpr h
     simp only [List.lookup, hb, if_pos h]
   · have hb : (g == f) = false := beq_eq_false_iff_ne.mpr h
     simp only [List.lookup, hb, if_neg h]
 | (k, x) :: r => by
   have ih := lookup_putF f g v r
   rw [show putF f v ((k, x) :: r) = (if k = f then (k, v) :: r else (k, x) :: putF f v r) from rfl]
   by_cases hk : k = f
   · rw [if_pos hk]
     by_cases h : g = k
     · have hb : (g == k) = true := beq_iff_eq.mpr h
       simp only [List.lookup, hb, if_pos (h.trans hk)]
     · have hb : (g == k) = false := beq_eq_false_iff_ne.mpr h
       simp only [List.lookup, hb, if_neg (fun e : g = f => h (e.trans hk.symm))]
   · rw [if_neg hk]
     by_cases h : g = k
     · have hb : (g == k) = true := beq_iff_eq.mpr h
       simp only [List.lookup, hb, if_neg (fun e : g = f => hk (h.symm.trans e))]
     · have hb : (g == k) = false := beq_eq_false_iff_ne.mpr h
       simp only [List.lookup, hb]
       exact ih
theorem RelO.some_of {v : V} {o : Option Value} (r : RelO (some v) o) : ∃ u, o = some u ∧ RelV v u := by
 cases o with
 | none => exact (show False from r).elim
 | some u => exact ⟨u, rfl, r⟩
section
variable {P : Program} {w : World} {H H' : Hp} {h h' : Heap} {a C dx : Addr} {fs fs' : List (Str × V)}
theorem ins_get (hok : HOk P w H h) (e : H a = some (.ins C dx fs)) : ∃ mA, ObjM h a dx C mA ∧ (∀ f, RelO (fs.lookup f) (mA f)) ∧ PySem.Within mA (fs.map (·.1)) ∧ fs.length ≤ 1000 ∧ H dx = some (.own a) := by
 obtain ⟨d, z, ne, ob, mA, n, r, q⟩ := (show ObjOk P w H h a (.ins C dx fs) from hok a _ e)
 exact ⟨mA, ⟨ob, n, ne⟩, r, q, z, d⟩
end
structure Cls (K : PySem.W.Frag) (C : Addr) : Prop where
 pg : PySem.W.plainGet K C Str.empty = true
 hd : PySem.W.hasDictIn K C = true
 po : PySem.W.plainOver K C = true
 sa : PySem.W.findIn K (.ref C) "__setattr__" = some (some (.builtin "object.__setattr__"))
theorem Cls.get {K : PySem.W.Frag} {C : Addr} (c : Cls K C) (f : Str) : PySem.W.plainGet K C f = true := c.pg
section
variable {X : Cx} {pins : List (Addr × Obj)} {σ : St} {H : Hp} {s : Shared} {A : Around} {E : Value → Shared → Prop} {Q : Value → Shared → Prop} {c : Value} {b : Bool}
inductive TyOf (K : PySem.W.Frag) (H : Hp) : V → Value → Prop where
 | non : TyOf K H .non (.type "NoneType")
 | bl (x : Bool) : TyOf K H (.bl x) (.type "bool")
 | int (i : Int) : TyOf K H (.int i) (.type "int")
 | str (x : Str) : TyOf K H (.str x) (.type "str")
 | flt (x : UInt64) : TyOf K H (.flt x) (.type "float")
 | lst {a : Addr} {xs : List V} (e : H a = some (.lst xs)) : TyOf K H (.ref a) (.type "list")
 | frz {a : Addr} {o : Obj} {xs : List V} (e : H a = some (.frz o (.lst xs))) : TyOf K H (.ref a) (.type "list")
 | tup {a : Addr} {xs : List V} (e : H a = some (.tup xs)) : TyOf K H (.ref a) (.type "tuple")
 | dK {a : Addr} {kvs : List (Key × V)} (e : H a = some (.dK kvs)) : TyOf K H (.ref a) (.type "dict")
 | dT {a : Addr} {kvs : List (List Key × V)} (e : H a = some (.dT kvs)) : TyOf K H (.ref a) (.type "dict")
 | ins {a C dx : Addr} {fs : List (Str × V)} (e : H a = some (.ins C dx fs)) (cl : Cls K C) (ha : PySem.W.findIn K (.ref C) "__class__" = some (some (.builtin "object.__class__")))
     (hn : PySem.W.specialIn K (.builtin "object.__class__") "__get__" = some (some (.builtin "getset_descriptor.__get__"))) (htk : PySem.W.takesIn K (.builtin "object.__class__") = some true)
     (hm : PySem.W.mroIn K C (.type "object") = some true) : TyOf K H (.ref a) (.ref C)
theorem isinst_ok {x : V} {u t : Value} (I : Inv X pins σ H s) (rx : RelV x u) (ty : TyOf X.K H x t) (e : PySem.W.kitOne X.K t c = some b) (h : ∀ tk, Q (.bool b) { s with toks := tk }) :
   wpAny (model X.prog X.w) A (call (.builtin "isinstance") [u, c]) Q E s := by
 cases ty with
 | non => cases (show u = Value.none from rx); exact PySem.W.kia_one PySem.W.kitx_none I.kIn True.intro e (fun z => nomatch z) h
 | bl y => cases (show u = Value.bool y from rx); exact PySem.W.kia_one PySem.W.kitx_bool I.kIn True.intro e (fun z => nomatch z) h
 | int i => obtain ⟨t, q⟩ := (show ∃ t, u = Value.int i t from rx); cases q; exact PySem.W.kia_one PySem.W.kitx_int I.kIn True.intro e (fun z => nomatch z) h
 | str y => obtain ⟨t, q⟩ := (show ∃ t, u = Value.str y t from rx); cases q; exact PySem.W.kia_one PySem.W.kitx_str I.kIn True.intro e (fun z => nomatch z) h
 | flt y => obtain ⟨t, q⟩ := (show ∃ t, u = Value.float y t from rx); cases q; exact PySem.W.kia_one PySem.W.kitx_float I.kIn True.intro e (fun z => nomatch z) h
 | @lst a xs ea =>
   cases (show u = Value.ref a from rx)
   obtain ⟨_, _, n, _, h1⟩ := (show ObjOk X.prog X.w H s.heap a (.lst xs) from I.hok a _ ea)
   exact PySem.W.kia_one PySem.W.kitx_list I.kIn ⟨_, h1, rfl⟩ e (fun z => nomatch z) h
 | @frz a ob xs ea =>
   cases (show u = Value.ref a from rx)
   obtain ⟨_, _, _, n, _, h1⟩ := (show ObjOk X.prog X.w H s.heap a (.frz ob (.lst xs)) from I.hok a _ ea)
   exact PySem.W.kia_one PySem.W.kitx_list I.kIn ⟨_, h1, rfl⟩ e (fun z => nomatch z) h
 | @tup a xs ea =>
   cases (show u = Value.ref a from rx)
   obtain ⟨_, _, _, p⟩ := (show ObjOk X.prog X.w H s.heap a (.tup xs) from I.hok a _ ea)
   obtain ⟨o, h1, h2, _⟩ := p
   exact PySem.W.kia_one PySem.W.kitx_tuple I.kIn ⟨o, h1, h2⟩ e (fun z => nomatch z) h
 | @dK a kvs ea =>
   cases (show u = Value.ref a from rx)
   obtain ⟨_, _, vs, _, p⟩ := (show ObjOk X.prog X.w H s.heap a (.dK kvs) from I.hok a _ ea)
   obtain ⟨o, es, ep, h1, h2, _⟩ := p
   exact PySem.W.kia_one PySem.W.kitx_dict I.kIn ⟨o, h1, h2.1⟩ e (fun z => nomatch z) h
 | @dT a kvs ea =>
   cases (show u = Value.ref a from rx)
   obtain ⟨_, _, xs, _, o, es, ep, h1, h2, _⟩ := (show ObjOk X.prog X.w H s.heap a (.dT kvs) from I.hok a _ ea)
   exact PySem.W.kia_one PySem.W.kitx_dict I.kIn ⟨o, h1, h2.1⟩ e (fun z => nomatch z) h
 | @ins a C dx fs ea cl ha hn htk hm =>
   cases (show u = Value.ref a from rx)
   obtain ⟨mA, O, _⟩ := ins_get I.hok ea
   obtain ⟨od, J, _⟩ := O.look
   exact PySem.W.kia_one (PySem.W.kitx_own (cl.get _) cl.hd ha hn htk hm) I.kIn J e (fun z => nomatch z) h
end
end L2
namespace L2
open PySem PySem.Spec PyProof.Rows
structure Room (k : Nat) (A : Around) : Prop where
 hd : A.handled = none
 dp : A.depth + 3 * k + 5 < recursionLimit
 un : A.units + 16 * k + 200 < cLine
 gd : A.guards = some []
theorem Room.mono {j k : Nat} {A : Around} (r : Room k A) (h : j ≤ k) : Room j A := ⟨r.hd, by have := r.dp; omega, by have := r.un; omega, r.gd⟩
theorem Room.deeper {k : Nat} {A : Around} (r : Room (k + 1) A) (env : Env) : Room k (A.deeper env) :=
 ⟨r.hd, by have := r.dp; show A.depth + 1 + 3 * k + 5 < _; omega, by have := r.un; show A.units + 3 + 16 * k + 200 < _; omega, r.gd⟩
theorem make_depth {A : Around} {C : Addr} {us : List Value} {kw : List (Str × Value)} : (A.under (.builtin "type.__call__" ⟨.ref C :: us, kw⟩)).depth = A.depth + 1 := by
 first | rfl | simp [Around.under, Code.weight, Code.isCreation, Code.isGuard, Code.isCaller, Code.frames, Code.isFrame, guardIds]
theorem make_units {A : Around} {C : Addr} {us : List Value} {kw : List (Str × Value)} : (A.under (.builtin "type.__call__" ⟨.ref C :: us, kw⟩)).units = A.units + 1 := by
 first | rfl | simp [Around.under, Code.cUnits, Code.frames, Code.isFrame]
theorem Room.make {k : Nat} {A : Around} (r : Room (k + 1) A) (C : Addr) (us : List Value) (kw : List (Str × Value)) : Room k (A.under (.builtin "type.__call__" ⟨.ref C :: us, kw⟩)) :=
 ⟨r.hd, by have := r.dp; rw [make_depth]; omega, by have := r.un; rw [make_units]; omega, by first | exact r.gd | (simpa [Around.under, Code.isGuard, guardIds] using r.gd)⟩
theorem Room.depth {k : Nat} {A : Around} (r : Room k A) : A.depth < recursionLimit := by have := r.dp; omega
theorem Room.units {k : Nat} {A : Around} (r : Room k A) : A.units + 64 < cLine := by have := r.un; omega
def tNil : TA := fun _ H Q => Q [] H
def tCons (ta : TE) (tr : TA) : TA := fun σ H Q => ta σ H fun x H1 => tr σ H1 fun xs H2 => Q (x :: xs) H2
section
variable {X : Cx} {e : Expr} {es : List Expr} {te : TE} {t : TA} {pos : Pos}
theorem pa_nil : PA X [] tNil := fun _ _ _ _ H Q I h => Calls.spliced_nil ⟨[], H, I, .nil, h⟩
theorem pa_cons (ha : PE X e te) (hr : PA X es t) (hs : starEach (e :: es) X.env = (false, eval e X.env) :: starEach es X.env := by rfl) : PA X (e :: es) (tCons te t) := by
 intro pos pins s σ H Q I h
 rw [hs]
 show wpAny _ _ (spliced ((false, eval e X.env) :: backTo pos (starEach es X.env))) _ _ s
 refine Calls.spliced_cons (thn (ha pins s σ H _ I h) fun u s1 ⟨x, H1, I1, r1, q1⟩ => ?_)
 exact thn (hr pos pins s1 σ H1 _ I1 q1) fun us s2 ⟨xs, H2, I2, r2, q2⟩ => ⟨x :: xs, H2, I2, .cons r1 r2, q2⟩
def tTup (t : TA) : TE := fun σ H Q => t σ H fun xs H1 => xs.length ≤ sizeLine ∧ ∀ p, H1 p = none → Q (.ref p) (upd H1 p (.tup xs))
def tLst (t : TA) : TE := fun σ H Q => t σ H fun xs H1 => xs.length ≤ sizeLine ∧ ∀ p, H1 p = none → Q (.ref p) (upd H1 p (.lst xs))
theorem pe_tup {x1} (h : PA X es t) : PE X (.Tuple es x1 pos) (tTup t) := by
 intro pins s σ H Q I hq
 refine wpAny_Tuple_spliced (thn (h pos pins s σ H _ I hq) fun us s1 ⟨xs, H1, I1, r, z, q⟩ => ⟨by rw [← r.length]; exact z, ?_⟩)
 have hf : H1 s1.heap.objs.size = none := I1.hok.fresh (Nat.le_refl _)
 refine ⟨.ref s1.heap.objs.size, upd H1 s1.heap.objs.size (.tup xs), I1.laid (t' := s1.toks) (fun b u e => Heap.get?_push_of_some _ e) (Nat.le_refl _) ?_, rfl, q _ hf⟩
 exact ⟨z, us, r, ⟨_, Heap.get?_push_size _ rfl, rfl, _, rfl⟩⟩
theorem pe_lst (h : PA X es t) : PE X (.List es pos) (tLst t) := by
 intro pins s σ H Q I hq
 refine wpAny_List_spliced (thn (h pos pins s σ H _ I hq) fun us s1 ⟨xs, H1, I1, r, z, q⟩ => ⟨by rw [← r.length]; exact z, ?_⟩)
 have hf : H1 s1.heap.objs.size = none := I1.hok.fresh (Nat.le_refl _)
 refine ⟨.ref s1.heap.objs.size, upd H1 s1.heap.objs.size (.lst xs), I1.laid (t' := s1.toks) (fun b u e => Heap.get?_push_of_some _ e) (Nat.le_refl _) ?_, rfl, q _ hf⟩
 exact ⟨z, us, 0, r, Heap.get?_push_size _ rfl⟩
end
abbrev Sp := List V → Hp → VK → XK → Prop
abbrev CXT := List Env → Hp → Shared → XK → Value → Shared → Prop
structure Env0 (P : Program) (w : World) (K : PySem.W.Frag) (mg : Str → Option Value) (base : Heap) (A : Around) (outer : List Env) (s : Shared) (H : Hp) : Prop where
 frames : A.frames = some outer
 mod : Mod K mg base
 bs : ∀ b o, base.get? b = some o → s.heap.get? b = some o ∧ H b = none
 bsz : base.objs.size ≤ s.heap.objs.size
 funs : s.heap.FunFrames base outer
 frf : ∀ b ∈ frs outer, H b = none
 hok : HOk P w H s.heap
 bare : AllBare s.gens
def CE (outer : List Env) (P : Program) (w : World) (H : Hp) (s : Shared) (Q : VK) (u : Value) (s' : Shared) : Prop :=
 ∃ v H', s'.os = s.os ∧ AllBare s'.gens ∧ Un (frs outer) [] H H' s.heap s'.heap ∧ HOk P w H' s'.heap ∧ RelV v u ∧ Q v H'
def CR (CX : CXT) (outer : List Env) (P : Program) (w : World) (H : Hp) (s : Shared) (Q : VK) (E : XK) (r : Result) (s' : Shared) : Prop :=
 match r with
 | .ok (.ret u) => CE outer P w H s Q u s'
 | .ok _ => False
 | .error e => CX outer H s E e s'
structure FnOk (P : Program) (w : World) (K : PySem.W.Frag) (mg : Str → Option Value) (base : Heap) (CX : CXT) (k : Nat) (f : Addr) (fd : FuncData) (ps : List Str) (sp : Sp) : Prop where
 len : ∀ vs H Q E, sp vs H Q E → vs.length = ps.length
 run : ∀ (A : Around) (outer : List Env) (s : Shared) (H : Hp) (args : Args) (us : List Value) (vs : List V) (Q : VK) (E : XK), Room k A → Env0 P w K mg base A outer s H → BindsTo s fd args (ps.zip us) → Vals vs us → sp vs H Q E →
   codeAny (model P w) A (.call (.ref f) args) (CR CX outer P w H s Q E) s
theorem FnOk.mono {P : Program} {w : World} {K : PySem.W.Frag} {mg : Str → Option Value} {base : Heap} {CX : CXT} {j k : Nat} {f : Addr} {fd : FuncData} {ps : List Str} {sp : Sp} (F : FnOk P w K mg base CX j f fd ps sp) (h : j ≤ k) :
   FnOk P w K mg base CX k f fd ps sp := ⟨F.len, fun A outer s H args us vs Q E hr => F.run A outer s H args us vs Q E (hr.mono h)⟩
theorem Env0.make {P : Program} {w : World} {K : PySem.W.Frag} {mg : Str → Option Value} {base : Heap} {A : Around} {outer : List Env} {s : Shared} {H : Hp} (e : Env0 P w K mg base A outer s H) (C : Addr) (us : List Value) (kw : List (Str × Value)) :
   Env0 P w K mg base (A.under (.builtin "type.__call__" ⟨.ref C :: us, kw⟩)) outer s H := ⟨by first | exact e.frames | (simpa [Around.under, Code.envs, Code.isFrame, pushEnvs] using e.frames), e.mod, e.bs, e.bsz, e.funs, e.frf, e.hok, e.bare⟩
section
variable {X : Cx} {pins : List (Addr × Obj)} {σ : St} {H : Hp} {s s' : Shared}
theorem Inv.env0 (I : Inv X pins σ H s) : Env0 X.prog X.w X.K X.mg X.base X.A X.stack s H :=
 ⟨I.ok.frames, I.ok.mod, I.bs, Nat.le_trans I.ok.bsz I.sz, I.stack, I.stkFree, I.hok, I.bare⟩
theorem Inv.after {Q : VK} {u : Value} (I : Inv X pins σ H s) (h : CE X.stack X.prog X.w H s Q u s') : EP X pins σ Q u s' := by
 obtain ⟨v, H', os, bare, un, hok, r, q⟩ := h
 obtain ⟨hh, g, d, t, os'⟩ := s'
 obtain rfl : os' = s.os := os
 exact ⟨v, H', I.call (h' := hh) (g' := g) (d' := d) (t' := t) (ch := []) un hok bare (fun b z => absurd z (by simp)), r, q⟩
end
def tCall (sp : Sp) (dvs : List V) (E : XK) (t : TA) : TE := fun σ H Q => t σ H fun vs H1 => sp (vs ++ dvs) H1 Q E
def Binds (K : PySem.W.Frag) (fd : FuncData) (ps : List Str) (ds : List Value) : Prop :=
 ∀ (s : Shared) (us : List Value), K.In s.heap → (us ++ ds).length = ps.length → BindsTo s fd ⟨us, []⟩ (ps.zip (us ++ ds))
theorem Binds.all {K : PySem.W.Frag} {fd : FuncData} {ps : List Str} (h : ∀ us : List Value, us.length = ps.length → bindArgs fd ⟨us, []⟩ = pure (ps.zip us)) : Binds K fd ps [] := fun s us _ hl => by
 rw [List.append_nil] at hl ⊢
 exact .of_eq (h us hl)
def Passes (CX : CXT) (X : Cx) (E : XK) : Prop := ∀ (pins : List (Addr × Obj)) (σ : St) (H : Hp) (s : Shared) (e : Value) (s' : Shared), Inv X pins σ H s → CX X.stack H s E e s' → X.xe e s'
section
variable {X : Cx} {CX : CXT} {k : Nat} {f C : Addr} {fd : FuncData} {ps : List Str} {sp : Sp} {dvs : List V} {ds : List Value} {E : XK} {x m : Str} {p pos apos : Pos} {e o : Expr} {es : List Expr} {ta : TE} {t : TA}
theorem run_fn {pins : List (Addr × Obj)} {σ : St} {H : Hp} {s : Shared} {Q : VK} {us : List Value} {vs : List V} (F : FnOk X.prog X.w X.K X.mg X.base CX k f fd ps sp) (hr : Room k X.A) (hb : Binds X.K fd ps ds) (hd : Vals dvs ds) (hx : Passes CX X E)
   (I : Inv X pins σ H s) (r : Vals vs us) (h : sp (vs ++ dvs) H Q E) : wpAny (model X.prog X.w) X.A (call (.ref f) us) (EP X pins σ Q) X.xe s := by
 have r2 : Vals (vs ++ dvs) (us ++ ds) := r.append hd
 have hl : (us ++ ds).length = ps.length := by rw [← r2.length]; exact F.len _ _ _ _ h
 refine wpAny_call (codeAny_mono (F.run X.A X.stack s H ⟨us, []⟩ (us ++ ds) (vs ++ dvs) Q E hr I.env0 (hb s us I.kIn hl) r2 h) fun r s' hq => ?_)
 cases r with
 | error e => exact hx pins σ H s e s' I hq
 | ok fl =>
   cases fl with
   | ret u => exact I.after hq
   | next => exact False.elim hq
   | brk => exact False.elim hq
   | cont => exact False.elim hq
theorem pe_call (F : FnOk X.prog X.w X.K X.mg X.base CX k f fd ps sp) (hr : Room k X.A) (hg : Gl X x) (hm : X.mg x = some (.ref f)) (hk : PySem.W.keepIn X.K (.ref f) = true) (hb : Binds X.K fd ps ds) (hd : Vals dvs ds) (hx : Passes CX X E)
   (ha : PA X (e :: es) t) (hdb : (x == ("__debug__" : Str)) = false := by decide) (he : starEach (e :: es) X.env = (false, eval e X.env) :: starEach es X.env := by rfl) (hpl : (backTo pos (starEach es X.env)).any (·.1) = false := by rfl) :
   PE X (.Call (.Name x p) (e :: es) [] pos) (tCall sp dvs E t) := by
 intro pins s σ H Q I h
 refine wpAny_Call_Name_kw (ld_glob I hg hm ?_ hdb)
 refine PySem.W.callWith_K (h₀ := X.base) I.ok.mod.kin hk (thn (ha pos pins s σ H _ I h) fun us s1 ⟨vs, H1, I1, r, q⟩ => ⟨I1.kIn, ?_⟩) he hpl
 exact run_fn F hr hb hd hx I1 r q
end
structure FnScope (N P : List Str) (sc : Scope) : Prop where
 kind : sc.kind = .function
 co : sc.isCoroutine = false
 gen : sc.isGenerator = false
 nd : N.Nodup
 pre : N.take P.length = P
 par : ∀ x ∈ P, sc.names.lookup x = some .local ∨ sc.names.lookup x = some .cell
 nofree : ∀ y ∈ sc.names, y.2 ≠ .free
theorem bindL_out {kindOf : Str → Option NameKind} {x : Str} : ∀ {binds : List (Str × Value)} {m : Str → Option Value}, (∀ v, (x, v) ∉ binds) → bindL kindOf binds m x = m x
 | [], _, _ => rfl
 | (n, v) :: r, m, h => by
   unfold bindL
   rw [bindL_out fun w hw => h w (List.mem_cons_of_mem _ hw)]
   split
   · have : x ≠ n := by rintro rfl; exact h v List.mem_cons_self
     simp [this]
   · rfl
theorem bindC_out {kindOf : Str → Option NameKind} {x : Str} : ∀ {binds : List (Str × Value)} {m : Str → Option Value}, (∀ v, (x, v) ∉ binds) → bindC kindOf binds m x = m x
 | [], _, _ => rfl
 | (n, v) :: r, m, h => by
   unfold bindC
   rw [bindC_out fun w hw => h w (List.mem_cons_of_mem _ hw)]
   split
   · rfl
   · have : x ≠ n := by rintro rfl; exact h v List.mem_cons_self
     simp [this]
theorem bindL_get {kindOf : Str → Option NameKind} {x : Str} {v : Value} : ∀ {P : List Str} {vs : List Value} {i : Nat} {m : Str → Option Value}, P.Nodup → P[i]? = some x → vs[i]? = some v → kindOf x = some .local →
   bindL kindOf (P.zip vs) m x = some v
 | [], _, _, _, _, h, _, _ => by simp at h
 | _ :: _, [], _, _, _, _, h, _ => by simp at h
 | p :: P, w :: vs, 0, m, nd, h1, h2, hk => by
   simp at h1 h2; subst h1; subst h2
   show bindL kindOf ((p, w) :: P.zip vs) m p = _
   unfold bindL
   rw [bindL_out fun v hv => (List.nodup_cons.mp nd).1 (List.of_mem_zip hv).1, if_pos hk]
   simp
 | p :: P, w :: vs, i + 1, m, nd, h1, h2, hk => by
   show bindL kindOf ((p, w) :: P.zip vs) m x = _
   unfold bindL
   exact bindL_get (i := i) (List.nodup_cons.mp nd).2 (by simpa using h1) (by simpa using h2) hk
theorem bindC_get {kindOf : Str → Option NameKind} {x : Str} {v : Value} : ∀ {P : List Str} {vs : List Value} {i : Nat} {m : Str → Option Value}, P.Nodup → P[i]? = some x → vs[i]? = some v → kindOf x ≠ some .local →
   bindC kindOf (P.zip vs) m x = some v
 | [], _, _, _, _, h, _, _ => by simp at h
 | _ :: _, [], _, _, _, _, h, _ => by simp at h
 | p :: P, w :: vs, 0, m, nd, h1, h2, hk => by
   simp at h1 h2; subst h1; subst h2
   show bindC kindOf ((p, w) :: P.zip vs) m p = _
   unfold bindC
   rw [bindC_out fun v hv => (List.nodup_cons.mp nd).1 (List.of_mem_zip hv).1, if_neg hk]
   simp
 | p :: P, w :: vs, i + 1, m, nd, h1, h2, hk => by
   show bindC kindOf ((p, w) :: P.zip vs) m x = _
   unfold bindC
   exact bindC_get (i := i) (List.nodup_cons.mp nd).2 (by simpa using h1) (by simpa using h2) hk
def start (N : List Str) (vs : List V) : St := vs.map some ++ List.replicate (N.length - vs.length) none
def cxOf (CX : CXT) (P : Program) (w : World) (K : PySem.W.Frag) (mg : Str → Option Value) (base : Heap) (N : List Str) (qual : Str) (scope : Scope) (f : Addr) (cd : Value) (A : Around) (outer : List Env) (s : Shared) (H : Hp) (E : XK) : Cx where
 prog := P
 w := w
 K := K
 mg := mg
 base := base
 A := A.deeper (envOfC qual scope s.heap.objs.size f cd)
 N := N
 s₀ := s
 H₀ := H
 env := envOfC qual scope s.heap.objs.size f cd
 outer := outer
 stack := envOfC qual scope s.heap.objs.size f cd :: outer
 ex := []
 calm := true
 fn := fun _ => true
 pn := []
 xe := fun e s' => wpAny (model P w) (A.deeper (envOfC qual scope s.heap.objs.size f cd)) (leaving (envOfC qual scope s.heap.objs.size f cd) e) (fun _ s'' => CX outer H s E e s'') (fun e' s'' => CX outer H s E e' s'') s'
theorem cell_has {sc : Scope} {n : Nat} {x : Str} (h : sc.names.lookup x = some .cell) : ∃ c, (cellsFrom n sc.names []).lookup x = some c := by
 have q := PySem.W.cellsFrom_some sc.names n [] (.inl h)
 exact Option.isSome_iff_exists.mp q
theorem inv_start {CX : CXT} {P : Program} {w : World} {K : PySem.W.Frag} {mg : Str → Option Value} {base : Heap} {N ps : List Str} {qual : Str} {scope : Scope} {f : Addr} {cd : Value} {A : Around} {outer : List Env} {s s1 : Shared} {H : Hp} {E : XK} {us : List Value} {vs : List V}
   (S : FnScope N ps scope) (hd : A.handled = none) (e0 : Env0 P w K mg base A outer s H) (hl : vs.length = ps.length) (r : Vals vs us)
   (x : InCallC s s.heap.objs.size (bindL (envOfC qual scope s.heap.objs.size f cd).kindOf (ps.zip us) fun _ => none) (cellsFrom (s.heap.objs.size + 1) scope.names []) (bindC (envOfC qual scope s.heap.objs.size f cd).kindOf (ps.zip us) fun _ => none) s1) :
   Inv (cxOf CX P w K mg base N qual scope f cd A outer s H E) [] (start N vs) H s1 := by
 have hpl : ps.length ≤ N.length := by have := congrArg List.length S.pre; rw [List.length_take] at this; omega
 obtain ⟨h1, tk, rfl, hk⟩ := x.done
 have noA : ∀ b : Addr, b ∉ (cxOf CX P w K mg base N qual scope f cd A outer s H E).ex := fun b z => absurd (show b ∈ ([] : List Addr) from z) (by simp)
 refine ⟨⟨e0.mod, S.kind, rfl, rfl, Nat.le_refl _, fun y z c h1 h2 => ?_, fun y hy => ?_, fun y c _ h => ?_, fun _ => hd, Around.frames_deeper e0.frames, .inr ⟨rfl, rfl⟩, fun b z => absurd z (noA b), e0.bs, e0.bsz, fun b _ _ => noA b, fun b z => absurd z (noA b), e0.funs, e0.frf⟩,
   rfl, e0.bare, Un.kept hk, ⟨_, x.toInCall.ns, fun i y v h1 h2 h3 => ?_⟩, fun y c h => ⟨_, x.cell y c h⟩, e0.hok.fresh (Nat.le_refl _), fun y c h => ?_, fun p hp => absurd (show p ∈ ([] : List (Addr × Obj)) from hp) (by simp), e0.hok.kept hk, ?_⟩
 · exact name_of_addr x.apart (PySem.mem_of_lookup h1) (PySem.mem_of_lookup h2)
 · have hy : scope.names.lookup y = some .cell ∨ scope.names.lookup y = some .free := hy
   rcases hy with hy | hy
   · exact cell_has hy
   · exact absurd rfl (S.nofree _ (PySem.mem_of_lookup hy))
 · exact Nat.le_of_lt (x.above y c (PySem.mem_of_lookup h))
 · have hi : i < vs.length := by
     unfold start at h2
     by_cases hi : i < vs.length
     · exact hi
     · rw [List.getElem?_append_right (by simpa using hi)] at h2
       rw [List.getElem?_replicate] at h2
       split at h2 <;> cases h2
   have ha : vs[i]? = some v := by
     unfold start at h2
     rw [List.getElem?_append_left (by simpa using hi), List.getElem?_map] at h2
     cases e : vs[i]? with
     | none => rw [e] at h2; cases h2
     | some a => rw [e] at h2; cases h2; rfl
   obtain ⟨u, hu, rv⟩ := r.get ha
   have hp : ps[i]? = some y := by
     rw [← S.pre, List.getElem?_take_of_lt (by omega)]; exact h1
   have ndP : ps.Nodup := by rw [← S.pre]; exact S.nd.sublist (List.take_sublist _ _)
   refine ⟨u, rv, ?_⟩
   rcases S.par y (List.mem_of_getElem? hp) with k | k
   · exact .inl ⟨k, bindL_get ndP hp hu k⟩
   · obtain ⟨c, e⟩ := cell_has (n := s.heap.objs.size + 1) k
     refine .inr ⟨.inl k, c, e, ?_⟩
     have q := x.cell y c e
     rw [bindC_get ndP hp hu (by show scope.names.lookup y ≠ _; rw [k]; decide)] at q
     exact q
 · exact e0.hok.fresh (Nat.le_of_lt (x.above y c (PySem.mem_of_lookup h)))
 · unfold start
   show _ = N.length
   rw [List.length_append, List.length_map, List.length_replicate]
   omega
theorem fn_of {CX : CXT} {P : Program} {w : World} {K : PySem.W.Frag} {mg : Str → Option Value} {base : Heap} {k : Nat} {f : Addr} {name qual : Str} {params : Arguments} {body : List Stmt} {scope : Scope} {dV kV doc pm cdv ct oc : Value} {an od : Option Addr}
   {osl : Array (Option Value)} {N ps : List Str} {sp : Sp} (lk : K.lookup f = some ⟨oc, od, .func (PySem.W.fnOf name qual params body scope dV kV doc pm an cdv ct), osl⟩) (hcd : PySem.W.codeIn K cdv qual = true) (S : FnScope N ps scope)
   (len : ∀ vs H Q E, sp vs H Q E → vs.length = ps.length)
   (hbody : ∀ (A : Around) (outer : List Env) (s : Shared) (H : Hp) (vs : List V) (Q : VK) (E : XK), Room k (A.deeper (envOfC qual scope s.heap.objs.size f cdv)) → sp vs H Q E →
     ∃ t, PSs (cxOf CX P w K mg base N qual scope f cdv A outer s H E) body t ∧ t { nx := fun _ H' => Q .non H', rt := Q } (start N vs) H) :
   FnOk P w K mg base CX (k + 1) f (PySem.W.fnOf name qual params body scope dV kV doc pm an cdv ct) ps sp := by
 refine ⟨len, fun A outer s H args us vs Q E hr e0 hb r hsp => ?_⟩
 have hl := len _ _ _ _ hsp
 have KX : K.In s.heap := e0.mod.kin.keeps fun b o e => (e0.bs b o e).1
 have lim : s.heap.NoLimit := e0.mod.nolimit.keeps fun b o e => (e0.bs b o e).1
 have hkind : ∀ y ∈ ps.zip us, scope.names.lookup y.1 = some .local ∨ (scope.names.lookup y.1 = some .cell ∧ ((cellsFrom (s.heap.objs.size + 1) scope.names []).lookup y.1).isSome = true) := fun ⟨n, v⟩ hy => by
   rcases S.par n (List.of_mem_zip hy).1 with q | q
   · exact .inl q
   · exact .inr ⟨q, PySem.W.cellsFrom_some _ _ _ (.inl q)⟩
 refine codeAny_call_function hr.depth (KX _ _ lk) rfl S.co S.gen rfl (PySem.W.codeRec_of KX hcd) (hb _ _ _ _ ?_)
 refine wpAny_newFunctionEnv_cells S.kind hkind fun env he s1 x => ?_
 subst he
 refine ⟨lim.keeps x.toInCall.keep, codeAny_func ?_⟩
 obtain ⟨t, ht, hq⟩ := hbody A outer s H vs Q E (hr.deeper _) hsp
 have I : Inv (cxOf CX P w K mg base N qual scope f cdv A outer s H E) [] (start N vs) H s1 := inv_start S hr.hd e0 hl r x
 refine wpAny_mono (ht [] s1 (start N vs) H _ I hq) (fun fl s' hs => ?_) fun e s' hs => hs
 have fin : ∀ {σ' : St} {H' : Hp} {v : V} {u : Value}, Inv (cxOf CX P w K mg base N qual scope f cdv A outer s H E) [] σ' H' s' → RelV v u → Q v H' → CE outer P w H s Q u s' :=
   fun {σ' H' v u} J rv q => ⟨v, H', J.os, J.bare, J.base, J.hok, rv, q⟩
 cases fl with
 | ret u =>
   obtain ⟨v, σ', H', J, rv, q⟩ := hs
   exact fin J rv q
 | next =>
   obtain ⟨σ', H', J, q⟩ := hs
   exact fin (v := V.non) (u := Value.none) J rfl q
 | brk =>
   obtain ⟨_, _, _, q⟩ := hs
   exact False.elim q
 | cont =>
   obtain ⟨_, _, _, q⟩ := hs
   exact False.elim q
end L2
namespace L2
open PySem PySem.Spec PyProof.Rows
section
variable {X : Cx} {x : Str} {p pos : Pos} {e : Expr} {es : List Expr} {t : TA} {id T : String} {r : List V → Hp → VK → Prop}
def tCB (r : List V → Hp → VK → Prop) (t : TA) : TE := fun σ H Q => t σ H fun vs H1 => r vs H1 Q
theorem pe_callB (hc : CallR X (.builtin id) r) (hg : Gl X x) (hm : X.mg x = none) (hv : bootBuiltins x = some (.builtin id)) (ha : PA X (e :: es) t) (hn : x ≠ "__name__" := by decide) (hdb : (x == ("__debug__" : Str)) = false := by decide)
   (he : starEach (e :: es) X.env = (false, eval e X.env) :: starEach es X.env := by rfl) (hpl : (backTo pos (starEach es X.env)).any (·.1) = false := by rfl) : PE X (.Call (.Name x p) (e :: es) [] pos) (tCB r t) := by
 intro pins s σ H Q I h
 refine wpAny_Call_Name_kw (ld_blt I hg hm hv ?_ hn hdb)
 exact PyProof.Rows.callWith_builtin1 (thn (ha pos pins s σ H _ I h) fun us s1 ⟨vs, H1, I1, r1, q1⟩ => hc pins s1 σ H1 vs us Q I1 r1 q1) he hpl
theorem pe_callTy (hc : CallR X (.type T) r) (hg : Gl X x) (hm : X.mg x = none) (hv : bootBuiltins x = some (.type T)) (ha : PA X (e :: es) t) (hn : x ≠ "__name__" := by decide) (hdb : (x == ("__debug__" : Str)) = false := by decide)
   (he : starEach (e :: es) X.env = (false, eval e X.env) :: starEach es X.env := by rfl) (hpl : (backTo pos (starEach es X.env)).any (·.1) = false := by rfl) : PE X (.Call (.Name x p) (e :: es) [] pos) (tCB r t) := by
 intro pins s σ H Q I h
 refine wpAny_Call_Name_kw (ld_blt I hg hm hv ?_ hn hdb)
 exact PyProof.Rows.callWith_type1 (thn (ha pos pins s σ H _ I h) fun us s1 ⟨vs, H1, I1, r1, q1⟩ => hc pins s1 σ H1 vs us Q I1 r1 q1) he hpl
end
end L2
namespace HT
open PySem PyProof.Rows
section
variable {prog : Program} {w : World} {A : Around} {E : Value → Shared → Prop} {s : Shared}
theorem cat_tup {t b : Addr} {vs ws : List Value} {Q : Value → Shared → Prop} (ht : IsTup s.heap t vs.toArray) (hb : IsTup s.heap b ws.toArray) (hv : vs ≠ [])
   (h1 : ws = [] → Q (.ref t) s) (h2 : ws ≠ [] → Q (.ref s.heap.objs.size) { s with heap := s.heap.push { cls := .type "tuple", data := .seq (vs ++ ws).toArray } })
   (hsz : vs.length + ws.length ≤ sizeLine) : wpAny (model prog w) A (binaryOp .Add (.ref t) (.ref b)) Q E s := by
 obtain ⟨⟨cls, dd, data, sl⟩, ho, hc, n, hd⟩ := id ht
 obtain ⟨⟨cls2, dd2, data2, sl2⟩, ho2, hc2, n2, hd2⟩ := id hb
 simp only at hc hd hc2 hd2
 subst hc hd hc2 hd2
 have e : vs.toArray ++ ws.toArray = (vs ++ ws).toArray := by simp
 by_cases hw : ws = []
 · exact concat_meets ⟨_, ho, rfl⟩ ⟨_, ho2, rfl⟩ noFill_tuple_add seq_tuple_add PySem.F.slot_tuple_add PySem.F.entry_tuple_add (PySem.F.args_tuple_add_2 _ _)
     (tuple_addW1 t b vs.toArray ws.toArray n n2 dd dd2 sl sl2 (by simpa using hv) (by simp [hw])) ⟨ho, ho2, h1 hw⟩
 · refine concat_meets ⟨_, ho, rfl⟩ ⟨_, ho2, rfl⟩ noFill_tuple_add seq_tuple_add PySem.F.slot_tuple_add PySem.F.entry_tuple_add (PySem.F.args_tuple_add_2 _ _)
     (tuple_addW2 t b vs.toArray ws.toArray n n2 dd dd2 sl sl2 (by simpa using hv) (by simpa using hw) (by rw [List.size_toArray, List.size_toArray]; exact hsz)) ⟨ho, ho2, ?_⟩
   rw [e]
   exact h2 hw
def sIx (n d : Nat) : Option Int → Nat
 | none => d
 | some v => if v < 0 then (v + (n : Int)).toNat else min v.toNat n
theorem sIx_le (n d : Nat) (hd : d ≤ n) (o : Option Int) : sIx n d o ≤ n := by
 cases o with
 | none => exact hd
 | some v =>
   show (if v < 0 then (v + (n : Int)).toNat else min v.toNat n) ≤ n
   by_cases hv : v < 0
   · rw [if_pos hv]; omega
   · rw [if_neg hv]; exact Nat.min_le_right _ _
theorem clip_eq (v : Int) (n d : Nat) : (if v < 0 then max (v + (n : Int)) 0 else min v (n : Int)) = ((sIx n d (some v) : Nat) : Int) := by
 show (if v < 0 then max (v + (n : Int)) 0 else min v (n : Int)) = (((if v < 0 then (v + (n : Int)).toNat else min v.toNat n) : Nat) : Int)
 by_cases hv : v < 0
 · simp only [if_pos hv]; omega
 · simp only [if_neg hv]; omega
theorem adjust_gen (lo hi : Option Int) (n : Nat) : Builtin.Slice.sliceAdjust lo hi 1 (n : Int) = (((sIx n 0 lo : Nat) : Int), ((sIx n n hi : Nat) : Int)) := by
 have h1 : ¬ ((1 : Int) < 0) := by omega
 unfold Builtin.Slice.sliceAdjust
 simp only [h1, if_false]
 refine Prod.ext ?_ ?_
 · cases lo with
   | none => rfl
   | some v => exact clip_eq v n 0
 · cases hi with
   | none => rfl
   | some v => exact clip_eq v n n
theorem places_gen (i j : Nat) : Builtin.Slice.slicePlaces (i : Int) (j : Int) 1 = j - i := by
 unfold Builtin.Slice.slicePlaces
 have h1 : (1 : Int) > 0 := by omega
 simp only [h1, if_true, Int.ediv_one]
 split <;> omega
theorem slicePart_ {v : Value} {o : Option Int} {Q : Option Int → Shared → Prop} (p : IsPart v o) (h : Q o s) : wpAny (model prog w) A (Builtin.Slice.slicePartIndex v) Q E s := by
 cases p with
 | none => exact slicePart_none h
 | int i t => exact slicePart_int h
theorem sliceApplied_gen {sl : Addr} {vl vu : Value} {lo hi : Option Int} {n : Nat} {Q : Int × Int × Nat → Shared → Prop} (hs : s.heap.IsSliceOf sl vl vu .none) (pl : IsPart vl lo) (pu : IsPart vu hi)
   (h : Q (((sIx n 0 lo : Nat) : Int), 1, sIx n n hi - sIx n 0 lo) s) : wpAny (model prog w) A (Builtin.Slice.sliceApplied (.ref sl) (pure (n : Int))) Q E s := by
 obtain ⟨os, hos, hcs, hds⟩ := id hs
 unfold Builtin.Slice.sliceApplied Builtin.Slice.sliceFields
 refine wpAny_bind (wpAny_bind (wpAny_field hos hds (x := vl) rfl (wpAny_bind (wpAny_field hos hds (x := vu) rfl (wpAny_bind (wpAny_field hos hds (x := .none) rfl (wpAny_pure ?_)))))))
 refine wpAny_bind (slicePart_none ?_)
 show wpAny _ _ (if ((1 : Int) == 0) = true then _ else _) _ _ s
 rw [if_neg (by decide)]
 refine wpAny_bind (slicePart_ pl (wpAny_bind (slicePart_ pu (wpAny_bind (wpAny_pure ?_)))))
 show wpAny _ _ (match Builtin.Slice.sliceAdjust lo hi 1 (n : Int) with | (lo, hi) => pure (lo, (1 : Int), Builtin.Slice.slicePlaces lo hi 1)) _ _ s
 rw [adjust_gen lo hi n]
 show wpAny _ _ (pure (((sIx n 0 lo : Nat) : Int), (1 : Int), Builtin.Slice.slicePlaces ((sIx n 0 lo : Nat) : Int) ((sIx n n hi : Nat) : Int) 1)) _ _ s
 rw [places_gen]
 exact wpAny_pure h
theorem pick_gen (xs : Array Value) (i k : Nat) : ((List.range k).filterMap fun (m : Nat) => xs[((i : Int) + (m : Int) * 1).toNat]?).toArray = ((xs.toList.drop i).take k).toArray := by
 have e : (fun (m : Nat) => xs[((i : Int) + (m : Int) * 1).toNat]?) = fun m => xs[i + m]? := by
   funext m
   have : ((i : Int) + (m : Int) * 1).toNat = i + m := by omega
   rw [this]
 rw [e]
 have := pick_run xs i k
 rw [List.filterMap_map] at this
 have e2 : ((fun x => xs[x]?) ∘ fun x => i + x) = fun m => xs[i + m]? := rfl
 rw [e2] at this
 rw [this]
theorem getItem_tuple_cut {t sl : Addr} {items : Array Value} {vl vu : Value} {lo hi : Option Int} {Q : Value → Shared → Prop} (ht : IsTup s.heap t items) (hs : s.heap.IsSliceOf sl vl vu .none) (pl : IsPart vl lo) (pu : IsPart vu hi)
   (hw : ¬ (sIx items.size 0 lo = 0 ∧ sIx items.size items.size hi = items.size))
   (h : Q (.ref s.heap.objs.size) { s with heap := s.heap.push { cls := .type "tuple", data := .seq ((items.toList.drop (sIx items.size 0 lo)).take (sIx items.size items.size hi - sIx items.size 0 lo)).toArray } })
   (hsz : items.size ≤ sizeLine) : wpAny (model prog w) A (getItem (.ref t) (.ref sl)) Q E s := by
 have htake : sizeOk (.seq ((items.toList.drop (sIx items.size 0 lo)).take (sIx items.size items.size hi - sIx items.size 0 lo)).toArray) := by
   show ((items.toList.drop (sIx items.size 0 lo)).take (sIx items.size items.size hi - sIx items.size 0 lo)).toArray.size ≤ sizeLine
   rw [List.size_toArray, List.length_take, List.length_drop, Array.length_toList]
   omega
 have hj : sIx items.size items.size hi ≤ items.size := sIx_le _ _ (Nat.le_refl _) hi
 obtain ⟨os, hos, hcs, hds⟩ := id hs
 have hTs : s.TypeIs (.ref sl) "slice" := ⟨os, hos, hcs⟩
 unfold getItem
 try with_reducible refine wpAny_holding ?_
 first | refine wpAny_bind (wpAny_pure ?_) | skip
 refine wpAny_bind (wpAny_sequenceKey ht.typeIs (by decide) ?_)
 refine wpAny_bind (wpAny_callSpecial?_slot (name := Str.ofString "__getitem__") ht.typeIs PyProof.Rows.slot_tuple_getitem
   (wpAny_call_entry PyProof.Rows.slot_tuple_getitem ht.typeIs entry_tuple_getitem ?_ (args_tuple_getitem _ _)))
 show wpAny _ _ (Builtin.Tuple.tupleItemsOf (.ref t) >>= _) _ _ s
 refine wpAny_bind (tupleItemsOf_ ht ?_)
 refine wpAny_bind (wpAny_typeOf hTs ?_)
 rw [if_pos (by decide)]
 refine wpAny_bind (sliceApplied_gen hs pl pu ?_)
 have hno : ¬ ((((sIx items.size 0 lo : Nat) : Int) == 0 && (1 : Int) == 1 && (sIx items.size items.size hi - sIx items.size 0 lo) == items.size) = true) := by
   intro q
   rw [Bool.and_eq_true, Bool.and_eq_true] at q
   have q1 : ((sIx items.size 0 lo : Nat) : Int) = 0 := eq_of_beq q.1.1
   have q2 : sIx items.size items.size hi - sIx items.size 0 lo = items.size := eq_of_beq q.2
   exact hw ⟨by omega, by omega⟩
 show wpAny _ _ (if (((sIx items.size 0 lo : Nat) : Int) == 0 && (1 : Int) == 1 && (sIx items.size items.size hi - sIx items.size 0 lo) == items.size) = true then _ else _) _ _ s
 rw [if_neg hno, pick_gen]
 first
   | exact wpAny_bind (m := Builtin.Tuple.tupleExact _) (wpAny_newObj_type (wpAny_pure ⟨_, rfl, wpAny_pure h⟩) htake)
   | exact wpAny_bind (m := Builtin.Tuple.tupleExact _) (wpAny_newObj_type (wpAny_bind (wpAny_pure (wpAny_pure ⟨_, rfl, wpAny_pure h⟩))) htake)
   | exact wpAny_bind (wpAny_bind (m := Builtin.Tuple.tupleExact _) (wpAny_newObj_type (wpAny_pure (wpAny_pure ⟨_, rfl, wpAny_pure h⟩)) htake))
   | exact wpAny_bind (wpAny_bind (m := Builtin.Tuple.tupleExact _) (wpAny_newObj_type (wpAny_pure ⟨_, rfl, wpAny_pure h⟩) htake))
end
end HT
namespace L2
open PySem PySem.Spec PyProof.Rows
abbrev TO := St → Hp → (Option Int → Hp → Prop) → Prop
def PO (X : Cx) (e : Option Expr) (t : TO) : Prop :=
 ∀ (pins : List (Addr × Obj)) (s : Shared) (σ : St) (H : Hp) (Q : Option Int → Hp → Prop), Inv X pins σ H s → t σ H Q →
   wpAny (model X.prog X.w) X.A (evalPart e X.env) (fun u s' => ∃ o H', Inv X pins σ H' s' ∧ IsPart u o ∧ Q o H') X.xe s
def tNoPart : TO := fun _ H Q => Q none H
def tPart (t : TE) : TO := fun σ H Q => t σ H fun x H1 => ∃ i, x = .int i ∧ Q (some i) H1
section
variable {X : Cx} {e : Expr} {te : TE} {lo hi : Option Expr} {tl th : TO} {pos p2 : Pos}
theorem po_none : PO X none tNoPart := by
 intro pins s σ H Q I h
 rw [evalPart_none]
 exact wpAny_pure ⟨none, H, I, .none, h⟩
theorem po_some (h : PE X e te) : PO X (some e) (tPart te) := by
 intro pins s σ H Q I hw
 rw [evalPart_some]
 refine thn (h pins s σ H _ I hw) fun u s1 ⟨x, H1, I1, r1, q1⟩ => ?_
 obtain ⟨i, rfl, q⟩ := q1
 obtain ⟨t, rfl⟩ := r1
 exact ⟨some i, H1, I1, .int i t, q⟩
def SlR (X : Cx) (r : V → Option Int → Option Int → Hp → VK → Prop) : Prop :=
 ∀ (pins : List (Addr × Obj)) (s : Shared) (σ : St) (H : Hp) (x : V) (v vl vu : Value) (lo hi : Option Int) (sl : Addr) (Q : VK), Inv X pins σ H s → RelV x v → s.heap.IsSliceOf sl vl vu .none → IsPart vl lo → IsPart vu hi → r x lo hi H Q →
   ∃ T id, typeLookup (.type T) "__getitem__" = pure (some (.builtin id)) ∧ s.TypeIs v T ∧ wpAny (model X.prog X.w) X.A (getItem v (.ref sl)) (EP X pins σ Q) X.xe s
theorem SlR.or {r r' : V → Option Int → Option Int → Hp → VK → Prop} (h : SlR X r) (h' : SlR X r') : SlR X (fun x lo hi H Q => r x lo hi H Q ∨ r' x lo hi H Q) := by
 intro pins s σ H x v vl vu lo hi sl Q I rx hs pl pu q
 rcases q with q | q
 · exact h pins s σ H x v vl vu lo hi sl Q I rx hs pl pu q
 · exact h' pins s σ H x v vl vu lo hi sl Q I rx hs pl pu q
def tSl (r : V → Option Int → Option Int → Hp → VK → Prop) (te : TE) (tl th : TO) : TE := fun σ H Q => te σ H fun x H1 => tl σ H1 fun l H2 => th σ H2 fun u H3 => r x l u H3 Q
theorem pe_slice {r : V → Option Int → Option Int → Hp → VK → Prop} (hr : SlR X r) (he : PE X e te) (hl : PO X lo tl) (hu : PO X hi th) : PE X (.Subscript e (.Slice lo hi none p2) pos) (tSl r te tl th) := by
 intro pins s σ H Q I h
 refine Subscript_ (thn (he pins s σ H _ I h) fun v s1 ⟨x, H1, I1, r1, q1⟩ => ?_)
 refine wpAny_Slice (thn (hl pins s1 σ H1 _ I1 q1) fun vl s2 ⟨l, H2, I2, pl, q2⟩ => thn (hu pins s2 σ H2 _ I2 q2) fun vu s3 ⟨u, H3, I3, pu, q3⟩ => ?_)
 rw [evalPart_none]
 refine wpAny_pure ?_
 have I4 : Inv X pins σ H3 { s3 with heap := s3.heap.push { cls := .type "slice", data := .fields #[vl, vu, .none] } } := I3.kept (t' := s3.toks) fun b ob q => Heap.get?_push_of_some _ q
 obtain ⟨T, id, hT, ht, hg⟩ := hr pins { s3 with heap := s3.heap.push { cls := .type "slice", data := .fields #[vl, vu, .none] } } σ H3 x v vl vu l u s3.heap.objs.size Q I4 r1 (Heap.IsSliceOf.new ..) pl pu q3
 show wpAny (model X.prog X.w) X.A (subscriptTail e (.Slice lo hi none p2) v (.ref s3.heap.objs.size)) (EP X pins σ Q) X.xe { s3 with heap := s3.heap.push { cls := .type "slice", data := .fields #[vl, vu, .none] } }
 exact tail_any (ops := [.ref s3.heap.objs.size, v]) ht hT hg (by with_unfolding_all rfl)
def cutV (xs : List V) (lo hi : Option Int) : List V := (xs.drop (HT.sIx xs.length 0 lo)).take (HT.sIx xs.length xs.length hi - HT.sIx xs.length 0 lo)
theorem cutV_length (xs : List V) (lo hi : Option Int) : (cutV xs lo hi).length ≤ xs.length := by
 unfold cutV
 rw [List.length_take, List.length_drop]
 omega
def rSlT (K : PySem.W.Frag) : V → Option Int → Option Int → Hp → VK → Prop := fun x lo hi H Q => ∃ a xs, x = .ref a ∧ SqT K H a xs ∧
 ¬ (HT.sIx xs.length 0 lo = 0 ∧ HT.sIx xs.length xs.length hi = xs.length) ∧ ∀ p, H p = none → Q (.ref p) (upd H p (.tup (cutV xs lo hi)))
theorem sl_tup : SlR X (rSlT X.K) := by
 intro pins s σ H x v vl vu lo hi sl Q I rx hs pl pu h
 obtain ⟨a, xs, rfl, hx, hw, q⟩ := h
 cases rx
 obtain ⟨its, r, ht, hz⟩ := I.tuple hx
 have hlen : its.toArray.size = xs.length := by rw [List.size_toArray]; exact r.length.symm
 refine ⟨"tuple", _, PyProof.Rows.slot_tuple_getitem.lookup, ht.typeIs, ?_⟩
 refine HT.getItem_tuple_cut ht hs pl pu (by rw [hlen]; exact hw) ?_ (by rw [hlen]; exact hz)
 rw [hlen]
 refine ⟨.ref s.heap.objs.size, _, I.laid (t' := s.toks) (o := .tup (cutV xs lo hi)) (fun b ob q => Heap.get?_push_of_some _ q) (Nat.le_refl _) ?_, rfl, q _ (I.hok.fresh (Nat.le_refl _))⟩
 exact ⟨Nat.le_trans (cutV_length xs lo hi) hz, _, (r.drop (HT.sIx xs.length 0 lo)).take (HT.sIx xs.length xs.length hi - HT.sIx xs.length 0 lo), IsTup.new _ _⟩
def rCatT (K : PySem.W.Frag) : R2 := fun x y H Q => ∃ a b xs ys, x = .ref a ∧ y = .ref b ∧ SqT K H a xs ∧ SqT K H b ys ∧ xs ≠ [] ∧ xs.length + ys.length ≤ sizeLine ∧
 (ys = [] → Q (.ref a) H) ∧ (ys ≠ [] → ∀ p, H p = none → Q (.ref p) (upd H p (.tup (xs ++ ys))))
theorem Vals.nil_iff {xs : List V} {us : List Value} (r : Vals xs us) : us = [] ↔ xs = [] := by
 cases r with
 | nil => simp
 | cons _ _ => simp
theorem op_catT : OpR X (binaryOp .Add) (rCatT X.K) := by
 intro pins s σ H x y v u Q I rx ry h
 obtain ⟨a, b, xs, ys, rfl, rfl, ha, hb, hx, hz, q1, q2⟩ := h
 cases rx
 cases ry
 obtain ⟨its, r1, p1, _⟩ := I.tuple ha
 obtain ⟨its2, r2, p2, _⟩ := I.tuple hb
 refine HT.cat_tup p1 p2 (fun z => hx (r1.nil_iff.mp z)) (fun z => ⟨.ref a, H, I, rfl, q1 (r2.nil_iff.mp z)⟩) (fun z => ?_) (by rw [← r1.length, ← r2.length]; exact hz)
 refine ⟨.ref s.heap.objs.size, _, I.laid (t' := s.toks) (o := .tup (xs ++ ys)) (fun b ob q => Heap.get?_push_of_some _ q) (Nat.le_refl _) ?_, rfl, q2 (fun w => z (r2.nil_iff.mpr w)) _ (I.hok.fresh (Nat.le_refl _))⟩
 exact ⟨by rw [List.length_append]; exact hz, _, r1.append r2, IsTup.new _ _⟩
end
end L2
namespace L2
open PySem PySem.Spec PyProof.Rows
def ixN (n : Nat) (i : Int) : Option Nat := if 0 ≤ i then (if i < n then some i.toNat else none) else if -(n : Int) ≤ i then some (i + n).toNat else none
def atI {α : Type} (xs : List α) (i : Int) : Option α := (ixN xs.length i).bind fun j => xs[j]?
theorem ixN_seq {n : Nat} {i : Int} {j : Nat} (h : ixN n i = some j) : seqIndex? i n = some j ∧ j < n ∧ -(n : Int) ≤ i ∧ i < n := by
 unfold ixN at h
 by_cases h0 : 0 ≤ i
 · rw [if_pos h0] at h
   by_cases h1 : i < n
   · rw [if_pos h1] at h
     have e : i.toNat = j := Option.some.inj h
     exact ⟨by rw [seqIndex_of h0 h1, e], by omega, by omega, h1⟩
   · rw [if_neg h1] at h; cases h
 · rw [if_neg h0] at h
   by_cases h1 : -(n : Int) ≤ i
   · rw [if_pos h1] at h
     have e : (i + n).toNat = j := Option.some.inj h
     exact ⟨by rw [seqIndex_neg (by omega) h1, e], by omega, h1, by omega⟩
   · rw [if_neg h1] at h; cases h
theorem atI_get {α : Type} {xs : List α} {i : Int} {v : α} (h : atI xs i = some v) : ∃ j, seqIndex? i xs.length = some j ∧ xs[j]? = some v ∧ j < xs.length ∧ -(xs.length : Int) ≤ i ∧ i < xs.length := by
 unfold atI at h
 cases e : ixN xs.length i with
 | none => rw [e] at h; cases h
 | some j =>
   rw [e] at h
   obtain ⟨h1, h2, h3, h4⟩ := ixN_seq e
   exact ⟨j, h1, h, h2, h3, h4⟩
theorem atI_nat {α : Type} {xs : List α} {j : Nat} {v : α} (h : xs[j]? = some v) : atI xs (j : Int) = some v := by
 have hj : j < xs.length := (List.getElem?_eq_some_iff.mp h).1
 have e : ixN xs.length (j : Int) = some j := by
   unfold ixN
   rw [if_pos (by omega), if_pos (by omega)]; simp
 unfold atI; rw [e]; exact h
def PlainIx (b : Expr) : Prop := ∀ o i, subscripted b false o i = operate [o, i] (getItem o i)
def IxR (X : Cx) (r : R2) : Prop :=
 ∀ (value slice : Expr) (pins : List (Addr × Obj)) (s : Shared) (σ : St) (H : Hp) (x y : V) (v u : Value) (Q : VK), Inv X pins σ H s → RelV x v → RelV y u → r x y H Q →
   subscripted slice false v u = operate [v, u] (getItem v u) → wpAny (model X.prog X.w) X.A (subscriptTail value slice v u) (EP X pins σ Q) X.xe s
def MtR (X : Cx) (id : String) (r : V → List V → Hp → VK → Prop) : Prop :=
 ∀ (pins : List (Addr × Obj)) (s : Shared) (σ : St) (H : Hp) (x : V) (xs : List V) (v : Value) (us : List Value) (Q : VK), Inv X pins σ H s → RelV x v → Vals xs us → r x xs H Q →
   wpAny (model X.prog X.w) X.A (call (.builtin id) (v :: us)) (EP X pins σ Q) X.xe s
section
variable {X : Cx} {a b : Expr} {ta tb : TE} {pos : Pos}
theorem IxR.or {r r' : R2} (h : IxR X r) (h' : IxR X r') : IxR X (fun x y H Q => r x y H Q ∨ r' x y H Q) := by
 intro value slice pins s σ H x y v u Q I rx ry q hs
 rcases q with q | q
 · exact h value slice pins s σ H x y v u Q I rx ry q hs
 · exact h' value slice pins s σ H x y v u Q I rx ry q hs
theorem pe_ix {r : R2} (hr : IxR X r) (ha : PE X a ta) (hb : PE X b tb) (hs : PlainIx b) : PE X (.Subscript a b pos) (tOp r ta tb) := by
 intro pins s σ H Q I h
 exact Subscript_ (binT ha hb I h fun v u s2 x y H2 I2 rx ry q => hr a b pins s2 σ H2 x y v u Q I2 rx ry q (hs _ _))
def rIxL (K : PySem.W.Frag) : R2 := fun x y H Q => ∃ p xs i v, x = .ref p ∧ y = .int i ∧ SqL K H p xs ∧ atI xs i = some v ∧ Q v H
def rIxT (K : PySem.W.Frag) : R2 := fun x y H Q => ∃ p xs i v, x = .ref p ∧ y = .int i ∧ SqT K H p xs ∧ atI xs i = some v ∧ Q v H
def rIxS : R2 := fun x y H Q => ∃ z i c, x = .str z ∧ y = .int i ∧ z.length ≤ sizeLine ∧ atI z.cps.toList i = some c ∧ Q (.str ⟨#[c]⟩) H
theorem ix_list : IxR X (rIxL X.K) := by
 intro value slice pins s σ H x y v u Q I rx ry h hs
 obtain ⟨p, xs, i, z, rfl, rfl, hq, he, q⟩ := h
 cases rx
 obtain ⟨t, rfl⟩ := ry
 obtain ⟨its, r, pl, hz⟩ := I.list hq
 obtain ⟨j, h1, h2, h3, h4, h5⟩ := atI_get he
 obtain ⟨w, ew, rw'⟩ := r.get h2
 have hl := r.length
 have hn := line63
 have fin : EP X pins σ Q w s := ⟨z, H, I, rw', q⟩
 by_cases h0 : 0 ≤ i
 · have hj : i.toNat = j := by
     rw [seqIndex_of h0 h5] at h1
     exact Option.some.inj h1
   exact item_listR pl.isList h0 (by omega) (by rw [hj]; simpa using ew) fin hs
 · have hj : (i + (its.toArray.size : Int)).toNat = j := by
     rw [seqIndex_neg (by omega) h4] at h1
     rw [List.size_toArray, ← hl]
     exact Option.some.inj h1
   exact subscriptTail_builtinR (x := w) pl.isList.typeIs slot_list_getitem.lookup
     (wpAny_getItem_list_neg (Q := fun r s' => r = w ∧ EP X pins σ Q r s') pl.isList (by omega) (by rw [List.size_toArray] <;> omega) (by omega) (by rw [hj]; simpa using ew) ⟨rfl, fin⟩) hs
theorem ix_tup : IxR X (rIxT X.K) := by
 intro value slice pins s σ H x y v u Q I rx ry h hs
 obtain ⟨p, xs, i, z, rfl, rfl, hq, he, q⟩ := h
 cases rx
 obtain ⟨t, rfl⟩ := ry
 obtain ⟨its, r, pl, hz⟩ := I.tuple hq
 obtain ⟨j, h1, h2, h3, h4, h5⟩ := atI_get he
 obtain ⟨w, ew, rw'⟩ := r.get h2
 have hl := r.length
 have hn := line63
 have fin : EP X pins σ Q w s := ⟨z, H, I, rw', q⟩
 exact subscriptTail_builtinR (x := w) pl.typeIs slot_tuple_getitem.lookup
   (getItem_tuple (j := j) (Q := fun r s' => r = w ∧ EP X pins σ Q r s') pl (by omega) (by omega) (by rw [List.size_toArray, ← hl]; exact h1) (by simpa using ew) ⟨rfl, fin⟩) hs
theorem ix_str : IxR X rIxS := by
 intro value slice pins s σ H x y v u Q I rx ry h hs
 obtain ⟨z, i, c, rfl, rfl, hz, he, q⟩ := h
 obtain ⟨t, rfl⟩ := rx
 obtain ⟨t', rfl⟩ := ry
 obtain ⟨j, h1, h2, h3, h4, h5⟩ := atI_get he
 have hl : z.cps.toList.length = z.length := by simp [Str.length]
 rw [hl] at h1 h4 h5
 have hn := line63
 exact tail_any (typeIs_str s z t) slot_str_getitem.lookup (getItem_str (c := c) (by
   have e1 : decide (i < -(2 ^ 63 : Int)) = false := decide_eq_false (by omega)
   have e2 : decide (i ≥ 2 ^ 63) = false := decide_eq_false (by omega)
   rw [e1, e2, Bool.or_false]) (by rw [h1]; simpa using h2) ⟨.str ⟨#[c]⟩, H, I.tok _, ⟨_, rfl⟩, q⟩) hs
def rIx (K : PySem.W.Frag) : R2 := fun x y H Q => rIxL K x y H Q ∨ rIxT K x y H Q ∨ rIxS x y H Q
theorem ix_seq : IxR X (rIx X.K) := ix_list.or (ix_tup.or ix_str)
theorem slice_bounds (lo hi : Option Int) (n : Nat) : (sliceBounds lo hi none n).1 = ((HT.sIx n 0 lo : Nat) : Int) ∧ (sliceBounds lo hi none n).2.1 = ((HT.sIx n n hi : Nat) : Int) ∧ (sliceBounds lo hi none n).2.2 = 1 := by
 refine ⟨?_, ?_, rfl⟩
 · cases lo with
   | none => simp [sliceBounds, HT.sIx]
   | some i =>
     simp only [sliceBounds, HT.sIx, Option.getD_none, show (1 : Int) > 0 by decide, if_true]
     by_cases h : i < 0
     · simp only [h, if_true] <;> omega
     · simp only [h, if_false] <;> omega
 · cases hi with
   | none => simp [sliceBounds, HT.sIx]
   | some i =>
     simp only [sliceBounds, HT.sIx, Option.getD_none, show (1 : Int) > 0 by decide, if_true]
     by_cases h : i < 0
     · simp only [h, if_true] <;> omega
     · simp only [h, if_false] <;> omega
theorem slicePick_cut (its : List Value) (lo hi : Option Int) : slicePick its.toArray lo hi none = ((its.drop (HT.sIx its.length 0 lo)).take (HT.sIx its.length its.length hi - HT.sIx its.length 0 lo)).toArray := by
 obtain ⟨h1, h2, h3⟩ := slice_bounds lo hi its.toArray.size
 unfold slicePick
 rw [h1, h2, h3]
 simp only [sliceRange_one, pick_run, List.size_toArray] <;> rfl
def rSlL (K : PySem.W.Frag) : V → Option Int → Option Int → Hp → VK → Prop := fun x lo hi H Q => ∃ a xs, x = .ref a ∧ SqL K H a xs ∧ ∀ p, H p = none → Q (.ref p) (upd H p (.lst (cutV xs lo hi)))
theorem sl_list : SlR X (rSlL X.K) := by
 intro pins s σ H x v vl vu lo hi sl Q I rx hs pl pu h
 obtain ⟨a, xs, rfl, hx, q⟩ := h
 cases rx
 obtain ⟨its, r, ht, hz⟩ := I.list hx
 have hlen := r.length
 refine ⟨"list", _, slot_list_getitem.lookup, ht.isList.typeIs, ?_⟩
 refine wpAny_getItem_list_slice ht.isList hs pl pu .none (by simp) ?_ (by rw [List.size_toArray] <;> omega)
 rw [slicePick_cut, ← hlen]
 refine ⟨.ref s.heap.objs.size, _, I.laid (t' := s.toks) (o := .lst (cutV xs lo hi)) (fun b ob q => Heap.get?_push_of_some _ q) (Nat.le_refl _) ?_, rfl, q _ (I.hok.fresh (Nat.le_refl _))⟩
 exact ⟨Nat.le_trans (cutV_length xs lo hi) hz, _, 0, (r.drop (HT.sIx xs.length 0 lo)).take (HT.sIx xs.length xs.length hi - HT.sIx xs.length 0 lo), Heap.get?_push_size _ rfl⟩
theorem call_tuple_of : CallR X (.type "tuple") (fun xs H Q => ∃ p ys, xs = [.ref p] ∧ ((SqL X.K H p ys ∧ ∀ l, H l = none → Q (.ref l) (upd H l (.tup ys))) ∨ (SqT X.K H p ys ∧ Q (.ref p) H))) := by
 intro pins s σ H xs us Q I r h
 obtain ⟨p, ys, rfl, h⟩ := h
 obtain ⟨u, rfl, rx⟩ := vals1 r
 cases rx
 rcases h with ⟨hq, q⟩ | ⟨hq, q⟩
 · obtain ⟨its, r', pl, hz⟩ := I.list hq
   have hlen := r'.length
   refine call_tuple_list pl.isList (fun h' kp => ?_) (by simp only [List.size_toArray] <;> omega)
   have I1 : Inv X pins σ H { s with heap := h' } := I.kept (t' := s.toks) kp
   have I2 : Inv X pins σ (upd H h'.objs.size (.tup ys)) { s with heap := h'.push { cls := .type "tuple", data := .seq its.toArray } } :=
     I1.laid (t' := s.toks) (fun b o e => Heap.get?_push_of_some _ e) (Nat.le_refl _) (show ObjOk X.prog X.w _ _ _ (.tup ys) from ⟨hz, its, r', IsTup.new _ _⟩)
   exact ⟨.ref h'.objs.size, _, I2, rfl, q _ (I1.hok.fresh (Nat.le_refl _))⟩
 · obtain ⟨its, r', pl, hz⟩ := I.tuple hq
   exact call_tuple_same pl ⟨.ref p, H, I, rfl, q⟩
def tyV (K : PySem.W.Frag) (T : String) (x : V) (H : Hp) : Prop := match x with
 | .str _ => T = "str"
 | .int _ => T = "int"
 | .ref p => (T = "list" ∧ ∃ xs, SqL K H p xs) ∨ (T = "tuple" ∧ ∃ o, K.lookup p = some o ∧ o.cls = .type "tuple" ∧ o.dict = none) ∨
     (T = "dict" ∧ ((∃ kvs, H p = some (.dK kvs)) ∨ ∃ kvs, H p = some (.dT kvs))) ∨ (T = "set" ∧ ∃ S n, H p = some (.set S n))
 | _ => False
theorem tyV_is {pins : List (Addr × Obj)} {σ : St} {H : Hp} {s : Shared} {T : String} {x : V} {v : Value} (I : Inv X pins σ H s) (r : RelV x v) (ty : tyV X.K T x H) :
   s.TypeIs v T ∧ ∀ a, v = .ref a → ∃ ob, s.heap.get? a = some ob ∧ ob.dict = none := by
 cases x with
 | str z =>
   obtain ⟨t, rfl⟩ := r
   cases (show T = "str" from ty)
   exact ⟨typeIs_str s z t, fun _ e => nomatch e⟩
 | int i =>
   obtain ⟨t, rfl⟩ := r
   cases (show T = "int" from ty)
   exact ⟨typeIs_int s i t, fun _ e => nomatch e⟩
 | ref p =>
   cases r
   rcases ty with ⟨rfl, xs, hq⟩ | ⟨rfl, o, hk, hc, hd⟩ | ⟨rfl, hk⟩ | ⟨rfl, S, n, hk⟩
   · obtain ⟨its, _, pl, _⟩ := I.list hq
     refine ⟨pl.isList.typeIs, fun a e => ?_⟩
     cases e
     obtain ⟨o, n, e, c, hd, _⟩ := pl
     exact ⟨o, e, hd⟩
   · refine ⟨⟨o, I.kIn p o hk, hc⟩, fun a e => ?_⟩
     cases e
     exact ⟨o, I.kIn _ o hk, hd⟩
   · have z : ∃ o, s.heap.get? p = some o ∧ o.ExactDict := by
       rcases hk with ⟨kvs, hk⟩ | ⟨kvs, hk⟩
       · obtain ⟨_, _, _, _, o, _, _, e, ex, _⟩ := I.hok p _ hk
         exact ⟨o, e, ex⟩
       · obtain ⟨_, _, _, _, o, _, _, e, ex, _⟩ := I.hok p _ hk
         exact ⟨o, e, ex⟩
     obtain ⟨o, e, ex⟩ := z
     refine ⟨⟨o, e, ex.1⟩, fun a e2 => ?_⟩
     cases e2
     exact ⟨o, e, ex.2.1⟩
   · obtain ⟨o, _, _, _, e, ex, _⟩ := I.hok p _ hk
     refine ⟨⟨o, e, ex.1⟩, fun a e2 => ?_⟩
     cases e2
     exact ⟨o, e, ex.2.1⟩
 | _ => exact False.elim ty
def tBM0 (K : PySem.W.Frag) (T : String) (r : V → List V → Hp → VK → Prop) (to : TE) : TE := fun σ H Q => to σ H fun x H1 => tyV K T x H1 ∧ r x [] H1 Q
def tBM (K : PySem.W.Frag) (T : String) (r : V → List V → Hp → VK → Prop) (to : TE) (t : TA) : TE := fun σ H Q => to σ H fun x H1 => tyV K T x H1 ∧ t σ H1 fun xs H2 => r x xs H2 Q
variable {o e : Expr} {es : List Expr} {to : TE} {t : TA} {name : Str} {apos cpos : Pos} {T id : String} {r : V → List V → Hp → VK → Prop}
theorem pe_bm0 (pa : PlainAttrs T) (slot : Slot T name id) (hty : typeOf (.builtin id) = pure (.type "method_descriptor")) (hm : MtR X id r) (ho : PE X o to)
   (hbase : attributeBase o name X.env (eval o X.env) = eval o X.env := by rfl) (hline : (apos.endLine == cpos.line) = true := by rfl) : PE X (.Call (.Attribute o name apos) [] [] cpos) (tBM0 X.K T r to) := by
 intro pins s σ H Q I h
 refine wpAny_Call_method0_late hbase hline (thn (ho pins s σ H _ I h) fun v s1 ⟨x, H1, I1, r1, ty, q1⟩ => ?_)
 obtain ⟨h1, h2⟩ := tyV_is I1 r1 ty
 exact ⟨T, id, pa, slot, hty, h1, h2, Calls.callWith_builtin rfl (PySem.evalArgs_none (hm pins s1 σ H1 x [] v [] Q I1 r1 .nil q1))⟩
theorem pe_bm (pa : PlainAttrs T) (slot : Slot T name id) (hty : typeOf (.builtin id) = pure (.type "method_descriptor")) (hm : MtR X id r) (ho : PE X o to) (ha : PA X (e :: es) t)
   (hbase : attributeBase o name X.env (eval o X.env) = eval o X.env := by rfl)
   (hfew : ((backTo cpos (starEach (e :: es) X.env)).all (fun x => !x.1) && (backToKw cpos (keywordEach [] X.env)).all (fun x => x.1.isSome)
     && decide ((e :: es).length + ([] : List Keyword).length + (if ([] : List Keyword).isEmpty then 0 else 1) < 30)) = true := by rfl)
   (hline : (apos.endLine == cpos.line) = true := by rfl) (hs : starEach (e :: es) X.env = (false, eval e X.env) :: starEach es X.env := by rfl) (hplain : (backTo cpos (starEach es X.env)).any (·.1) = false := by rfl) :
   PE X (.Call (.Attribute o name apos) (e :: es) [] cpos) (tBM X.K T r to t) := by
 intro pins s σ H Q I h
 refine wpAny_Call_method_late hbase hfew hline rfl (thn (ho pins s σ H _ I h) fun v s1 ⟨x, H1, I1, r1, ty, q1⟩ => ?_)
 obtain ⟨h1, h2⟩ := tyV_is I1 r1 ty
 refine ⟨T, id, pa, slot, hty, h1, h2, ?_⟩
 have hA := ha cpos pins s1 σ H1 _ I1 q1
 rw [hs] at hA ⊢
 refine Calls.callWith_builtin (by show (false || (backTo cpos (starEach es X.env)).any (·.1)) = false; rw [hplain] <;> rfl) (Calls.evalArgs_plain ?_)
 exact thn hA fun us s2 ⟨vs, H2, I2, r2, q2⟩ => hm pins s2 σ H2 x vs v us Q I2 r1 r2 q2
/- xs.append(e), list.index on a module's tuple .. are MtR facts of 06m -/
end
end L2
namespace L2
open PySem PySem.Spec PyProof.Rows
def MtM (X : Cx) (id : String) (r : V → List V → Hp → VK → Prop) : Prop :=
 ∀ (pins : List (Addr × Obj)) (s : Shared) (σ : St) (H : Hp) (x : V) (xs : List V) (v : Value) (us : List Value) (Q : VK), Inv X pins σ H s → RelV x v → Vals xs us → r x xs H Q →
   wpAny (model X.prog X.w) X.A (call (.builtin id) (v :: us)) (EP X pins σ Q) X.xe s
theorem Vals.one : ∀ {x : V} {us : List Value}, Vals [x] us → ∃ u, us = [u] ∧ RelV x u
 | _, _, h => by
   cases h with
   | cons r t => cases t; exact ⟨_, rfl, r⟩
theorem Vals.zero : ∀ {us : List Value}, Vals [] us → us = []
 | _, .nil => rfl
theorem Vals.dropLast {xs : List V} {us : List Value} (h : Vals xs us) : Vals xs.dropLast us.dropLast := by
 induction h with
 | nil => exact .nil
 | cons r t ih =>
   cases t with
   | nil => exact .nil
   | cons q t' => exact .cons r ih
theorem Vals.eraseIdx : ∀ {xs : List V} {us : List Value} (i : Nat), Vals xs us → Vals (xs.eraseIdx i) (us.eraseIdx i)
 | _, _, _, .nil => .nil
 | _, _, 0, .cons _ t => t
 | _, _, i + 1, .cons r t => .cons r (Vals.eraseIdx i t)
theorem Vals.reverse {xs : List V} {us : List Value} (h : Vals xs us) : Vals xs.reverse us.reverse := by
 induction h with
 | nil => exact .nil
 | cons r t ih => rw [List.reverse_cons, List.reverse_cons]; exact Vals.append ih (.cons r .nil)
theorem Vals.rep {xs : List V} {us : List Value} (h : Vals xs us) : ∀ k : Nat, Vals (List.replicate k xs).flatten (List.replicate k us).flatten
 | 0 => .nil
 | k + 1 => by
   rw [List.replicate_succ, List.replicate_succ, List.flatten_cons, List.flatten_cons]
   exact Vals.append h (Vals.rep h k)
theorem erase_last {α : Type} (l : List α) : l.eraseIdx (l.length - 1) = l.dropLast := by
 induction l with
 | nil => rfl
 | cons a r ih =>
   cases r with
   | nil => rfl
   | cons b r =>
     have e : (a :: b :: r).length - 1 = ((b :: r).length - 1) + 1 := by
       have h1 : (a :: b :: r).length = r.length + 2 := rfl
       have h2 : (b :: r).length = r.length + 1 := rfl
       omega
     rw [e, List.eraseIdx_cons_succ, ih]
     all_goals rfl
theorem len_erase {α : Type} : ∀ (l : List α) (i : Nat), (l.eraseIdx i).length ≤ l.length
 | [], _ => Nat.le_refl _
 | _ :: _, 0 => Nat.le_succ _
 | _ :: r, i + 1 => Nat.succ_le_succ (len_erase r i)
theorem foldl_rep (its : List Value) : ∀ (k : Nat) (acc : List Value),
   List.foldl (fun x1 x2 => x1 ++ x2) acc.toArray (List.replicate k its.toArray) = (acc ++ (List.replicate k its).flatten).toArray
 | 0, acc => by simp
 | k + 1, acc => by
   have e : acc.toArray ++ its.toArray = (acc ++ its).toArray := by simp
   have e2 : (acc ++ its) ++ (List.replicate k its).flatten = acc ++ (List.replicate (k + 1) its).flatten := by
     rw [List.replicate_succ, List.flatten_cons, List.append_assoc]
   rw [← e2, ← foldl_rep its k (acc ++ its), ← e, List.replicate_succ, List.foldl_cons]
section
variable {X : Cx} {pins : List (Addr × Obj)} {σ : St} {H : Hp} {s : Shared} {l b : Addr} {xs ys zs : List V}
theorem Inv.lset {its its' : List Value} {n : Nat} {f : Array Value → Array Value} {t' : Nat} (I : Inv X pins σ H s) (hH : H l = some (.lst xs))
   (e : s.heap.get? l = some { cls := .type "list", data := .seq its.toArray n }) (hf : f its.toArray = its'.toArray) (hv : Vals ys its') (hz : ys.length ≤ sizeLine) :
   Inv X pins σ (upd H l (.lst ys)) { s with heap := s.heap.update l (Obj.mapSeq f), toks := t' } := by
 have q := PySem.IsL.update e f
 rw [hf] at q
 refine I.write (x := l) (e := l) (by rw [hH]; exact trivial) (.inl rfl) (fun b' u hb hu => (Heap.get?_update_other s.heap (Obj.mapSeq f) (Ne.symm hb)).trans hu) ⟨_, q⟩ ?_
 exact ⟨hz, its', _, hv, q⟩
theorem Inv.lnew {its : List Value} {t' : Nat} (I : Inv X pins σ H s) (hv : Vals ys its) (hz : ys.length ≤ sizeLine) :
   Inv X pins σ (upd H s.heap.objs.size (.lst ys)) { s with heap := s.heap.push { cls := .type "list", data := .seq its.toArray }, toks := t' } :=
 I.laid (fun _ _ q => Heap.get?_push_of_some _ q) (Nat.le_refl _) ⟨hz, its, 0, hv, Heap.get?_push_size _ rfl⟩
theorem Inv.fresh (I : Inv X pins σ H s) : H s.heap.objs.size = none := I.hok.fresh (Nat.le_refl _)
theorem Inv.lstM (I : Inv X pins σ H s) (hH : H l = some (.lst xs)) : xs.length ≤ sizeLine ∧ ∃ (its : List Value) (n : Nat), Vals xs its ∧ xs.length = its.length ∧ s.heap.get? l = some { cls := .type "list", data := .seq its.toArray n } := by
 obtain ⟨z, its, n, r, e⟩ := I.hok l _ hH
 exact ⟨z, its, n, r, r.length, e⟩
theorem notLongL {n : Nat} (h : n ≤ sizeLine) : Builtin.List.listTooLong n = false := by
 unfold Builtin.List.listTooLong
 exact decide_eq_false (by omega)
end
section
variable {X : Cx}
def rAppend : V → List V → Hp → VK → Prop := fun x vs H Q => ∃ l xs y, x = .ref l ∧ vs = [y] ∧ H l = some (.lst xs) ∧ xs.length < sizeLine ∧ Q .non (upd H l (.lst (xs ++ [y])))
theorem mt_append : MtM X "list.append" rAppend := by
 intro pins s σ H x vs v us Q I rx rv h
 obtain ⟨l, xs, y, rfl, rfl, hH, hz, q⟩ := h
 cases rx
 obtain ⟨u, rfl, ru⟩ := rv.one
 obtain ⟨z, its, n, r, hl, e⟩ := I.lstM hH
 refine call_meets F.slot_list_append ⟨_, e, rfl⟩ F.entry_list_append (F.args_list_append_2 _ _) (PySem.list_append l its.toArray n u (by rw [List.size_toArray]; omega)) ⟨e, ?_⟩
 refine ⟨.non, _, I.lset (its' := its ++ [u]) hH e (by simp) (r.append (.cons ru .nil)) ?_, rfl, q⟩
 rw [List.length_append, List.length_singleton]
 omega
def rExtend : V → List V → Hp → VK → Prop := fun x vs H Q => ∃ l b xs zs, x = .ref l ∧ vs = [.ref b] ∧ H l = some (.lst xs) ∧ H b = some (.lst zs) ∧ xs.length + zs.length ≤ sizeLine ∧ Q .non (upd H l (.lst (xs ++ zs)))
theorem mt_extend : MtM X "list.extend" rExtend := by
 intro pins s σ H x vs v us Q I rx rv h
 obtain ⟨l, b, xs, zs, rfl, rfl, hH, hB, hz, q⟩ := h
 cases rx
 obtain ⟨u, rfl, ru⟩ := rv.one
 cases ru
 obtain ⟨z, its, n, r, hl, e⟩ := I.lstM hH
 obtain ⟨z2, its2, n2, r2, hl2, e2⟩ := I.lstM hB
 have hsz : its.toArray.size + its2.toArray.size ≤ sizeLine := by rw [List.size_toArray, List.size_toArray]; omega
 have hlong : ¬ (!its.toArray.isEmpty && Builtin.List.listTooLong (its.toArray.size + its2.toArray.size)) = true := by
   rw [notLongL hsz, Bool.and_false]
   exact Bool.false_ne_true
 refine call_meets F.slot_list_extend ⟨_, e, rfl⟩ F.entry_list_extend (F.args_list_extend_2 _ _)
   (AutoSeq1.list_extend_list_list_0 l its.toArray n b its2.toArray n2 hlong (by rw [List.size_toArray]; omega) (by omega)) ⟨e, e2, ?_⟩
 refine ⟨.non, _, I.lset (its' := its ++ its2) hH e (by simp) (r.append r2) ?_, rfl, q⟩
 rw [List.length_append]
 omega
def rPop : V → List V → Hp → VK → Prop := fun x vs H Q => ∃ l xs y, x = .ref l ∧ vs = [] ∧ H l = some (.lst xs) ∧ xs[xs.length - 1]? = some y ∧ Q y (upd H l (.lst xs.dropLast))
theorem mt_pop : MtM X "list.pop" rPop := by
 intro pins s σ H x vs v us Q I rx rv h
 obtain ⟨l, xs, y, rfl, rfl, hH, hy, q⟩ := h
 cases rx
 have hus := rv.zero
 subst hus
 obtain ⟨z, its, n, r, hl, e⟩ := I.lstM hH
 obtain ⟨u, hu, ru⟩ := r.get hy
 have hy' : its.toArray[its.toArray.size - 1]? = some u := by
   show its.toArray[its.length - 1]? = some u
   rw [← Array.getElem?_toList, ← hl]
   exact hu
 refine call_meets F.slot_list_pop ⟨_, e, rfl⟩ F.entry_list_pop (F.args_list_pop_1 _) (MeetsSeq.list_pop_last l its.toArray n u hy' (by rw [List.size_toArray]; omega)) ⟨e, ?_⟩
 refine ⟨y, _, I.lset (its' := its.dropLast) hH e ?_ r.dropLast ?_, ru, q⟩
 · show its.toArray.eraseIdxIfInBounds (its.toArray.size - 1) = its.dropLast.toArray
   rw [List.size_toArray, List.eraseIdxIfInBounds_toArray, erase_last]
 · rw [List.length_dropLast]
   omega
def rPopAt : V → List V → Hp → VK → Prop := fun x vs H Q => ∃ l xs i k y, x = .ref l ∧ vs = [.int i] ∧ H l = some (.lst xs) ∧ -(2 ^ 63) ≤ i ∧ i < 2 ^ 63 ∧ seqIndex? i xs.length = some k ∧ xs[k]? = some y ∧ Q y (upd H l (.lst (xs.eraseIdx k)))
theorem mt_popAt : MtM X "list.pop" rPopAt := by
 intro pins s σ H x vs v us Q I rx rv h
 obtain ⟨l, xs, i, k, y, rfl, rfl, hH, h1, h2, hk, hy, q⟩ := h
 cases rx
 obtain ⟨u, rfl, ru⟩ := rv.one
 obtain ⟨t, rfl⟩ := ru
 obtain ⟨z, its, n, r, hl, e⟩ := I.lstM hH
 obtain ⟨w, hw, rw'⟩ := r.get hy
 refine call_meets F.slot_list_pop ⟨_, e, rfl⟩ F.entry_list_pop (F.args_list_pop_2 _ _)
   (MeetsSeq.list_pop_at l its.toArray n i t k w (fitsIndex_both h1 h2) (by rw [List.size_toArray, ← hl]; exact hk) (by rw [← Array.getElem?_toList]; exact hw) (by rw [List.size_toArray]; omega)) ⟨e, ?_⟩
 refine ⟨y, _, I.lset (its' := its.eraseIdx k) hH e ?_ (r.eraseIdx k) ?_, rw', q⟩
 · show its.toArray.eraseIdxIfInBounds k = (its.eraseIdx k).toArray
   rw [List.eraseIdxIfInBounds_toArray]
 · have := len_erase xs k
   omega
def rCat : R2 := fun x y H Q => ∃ l b xs zs, x = .ref l ∧ y = .ref b ∧ H l = some (.lst xs) ∧ H b = some (.lst zs) ∧ xs.length + zs.length ≤ sizeLine ∧ ∀ p, H p = none → Q (.ref p) (upd H p (.lst (xs ++ zs)))
theorem op_cat : OpR X (binaryOp .Add) rCat := by
 intro pins s σ H x y v u Q I rx ry h
 obtain ⟨l, b, xs, zs, rfl, rfl, hH, hB, hz, q⟩ := h
 cases rx
 cases ry
 obtain ⟨z, its, n, r, hl, e⟩ := I.lstM hH
 obtain ⟨z2, its2, n2, r2, hl2, e2⟩ := I.lstM hB
 refine PySem.P.add_list e e2 ?_ (by rw [List.size_toArray, List.size_toArray]; omega)
 have ea : its.toArray ++ its2.toArray = (its ++ its2).toArray := by simp
 rw [ea]
 exact ⟨.ref _, _, I.lnew (t' := s.toks) (r.append r2) (by rw [List.length_append]; omega), rfl, q _ I.fresh⟩
def rRep : R2 := fun x y H Q => ∃ l k xs, x = .ref l ∧ y = .int k ∧ H l = some (.lst xs) ∧ -(2 ^ 63) ≤ k ∧ k < 2 ^ 63 ∧ xs.length * k.toNat ≤ sizeLine ∧
 ∀ p, H p = none → Q (.ref p) (upd H p (.lst (List.replicate k.toNat xs).flatten))
theorem len_rep {α : Type} (xs : List α) (k : Nat) : (List.replicate k xs).flatten.length = k * xs.length := by
 induction k with
 | zero => simp
 | succ k ih => rw [List.replicate_succ, List.flatten_cons, List.length_append, ih, Nat.succ_mul, Nat.add_comm]
theorem op_rep : OpR X (binaryOp .Mult) rRep := by
 intro pins s σ H x y v u Q I rx ry h
 obtain ⟨l, k, xs, rfl, rfl, hH, h1, h2, hz, q⟩ := h
 cases rx
 obtain ⟨t, rfl⟩ := ry
 obtain ⟨z, its, n, r, hl, e⟩ := I.lstM hH
 have hlen : its.toArray.size * k.toNat ≤ sizeLine := by rw [List.size_toArray, ← hl]; exact hz
 have hcap : ¬ its.toArray.size * k.toNat > (2 ^ 63 - 1) / 8 := by
   have : (sizeLine : Nat) ≤ (2 ^ 63 - 1) / 8 := by decide
   omega
 have hfit : ¬ (!Builtin.List.listFitsIndex k) = true := by
   rw [fitsIndex_both h1 h2]
   exact Bool.false_ne_true
 have hlong : ¬ Builtin.List.listTooLong (its.toArray.size * k.toNat) = true := by
   rw [notLongL hlen]
   exact Bool.false_ne_true
 have hnew : List.foldl (fun x1 x2 => x1 ++ x2) #[] (List.replicate (if its.toArray.isEmpty = true then 0 else k.toNat) its.toArray) = (List.replicate k.toNat its).flatten.toArray := by
   have f0 : ∀ m : Nat, List.foldl (fun x1 x2 => x1 ++ x2) #[] (List.replicate m its.toArray) = (List.replicate m its).flatten.toArray := fun m => by
     have := foldl_rep its m []
     rw [List.nil_append] at this
     exact this
   rw [f0]
   cases its with
   | nil => simp
   | cons a r' => rw [if_neg (by simp)]
 refine wpAny_binaryOp_repeat_ref (T := "list") (U := "int") (by decide) ⟨_, e, rfl⟩ (fun s' => typeIs_int s' k t) noFill_list_mul F.fills_int_mul F.slot_int_rmul repeat_list F.slot_int_index.lookup
   (call_meets F.slot_int_rmul (typeIs_int s k t) F.entry_int_rmul (F.args_int_rmul_2 _ _) (int___rmul___int_list k t l its.toArray n)
     ⟨e, rfl, ⟨_, e, rfl⟩, call_meets F.slot_list_mul ⟨_, e, rfl⟩ F.entry_list_mul (F.args_list_mul_2 _ _) (AutoListH.list___mul___list_int_3 l its.toArray n k t hfit hcap hlong) ⟨e, ?_⟩⟩)
 rw [hnew]
 exact ⟨.ref _, _, I.lnew (t' := s.toks) (r.rep k.toNat) (by rw [len_rep, Nat.mul_comm]; exact hz), rfl, q _ I.fresh⟩
end
end L2
namespace L2
open PySem PySem.Spec PyProof.Rows
section
variable {κ : Type} [DecidableEq κ]
def valV (kvs : List (κ × V)) (k : κ) : Option V := (kvs.find? fun kv => decide (kv.1 = k)).map (·.2)
def putK (kvs : List (κ × V)) (k : κ) (v : V) : List (κ × V) :=
 if (kvs.any fun kv => decide (kv.1 = k)) = true then kvs.map (fun kv => if kv.1 = k then (kv.1, v) else kv) else kvs ++ [(k, v)]
theorem valV_pos {p : κ × V} {r : List (κ × V)} {k : κ} (e : p.1 = k) : valV (p :: r) k = some p.2 := by simp [valV, List.find?_cons, e]
theorem valV_neg {p : κ × V} {r : List (κ × V)} {k : κ} (e : ¬ p.1 = k) : valV (p :: r) k = valV r k := by simp [valV, List.find?_cons, e]
theorem valV_any (k : κ) : ∀ kvs : List (κ × V), (kvs.any fun kv => decide (kv.1 = k)) = (valV kvs k).isSome
 | [] => rfl
 | p :: r => by
   rw [List.any_cons]
   by_cases e : p.1 = k
   · simp only [valV_pos e, decide_eq_true e, Bool.true_or, Option.isSome_some]
   · rw [valV_neg e, decide_eq_false e, Bool.false_or]; exact valV_any k r
theorem length_putK (kvs : List (κ × V)) (k : κ) (v : V) : (putK kvs k v).length ≤ kvs.length + 1 := by
 unfold putK
 split
 · rw [List.length_map]; omega
 · rw [List.length_append, List.length_cons, List.length_nil]; omega
theorem RelO.isSome_eq {o : Option V} {u : Option Value} (r : RelO o u) : o.isSome = u.isSome := by
 cases o with
 | none => cases u with
   | none => rfl
   | some _ => exact (show False from r).elim
 | some _ => cases u with
   | none => exact (show False from r).elim
   | some _ => rfl
theorem KV.val {kvs : List (κ × V)} {vs : List (κ × Value)} (r : KV kvs vs) (k : κ) : RelO (valV kvs k) (valueAt vs k) := by
 unfold KV at r
 induction r with
 | nil => exact True.intro
 | @cons p q ps qs h t ih =>
   obtain ⟨h1, h2⟩ := h
   by_cases e : p.1 = k
   · have e' : q.1 = k := h1.symm.trans e
     have b : valueAt (q :: qs) k = some q.2 := by simp [valueAt, List.find?_cons, e']
     rw [valV_pos e, b]; exact h2
   · have e' : ¬ q.1 = k := fun z => e (h1.trans z)
     have b : valueAt (q :: qs) k = valueAt qs k := by simp [valueAt, List.find?_cons, e']
     rw [valV_neg e, b]; exact ih
theorem KV.any {kvs : List (κ × V)} {vs : List (κ × Value)} (r : KV kvs vs) (k : κ) : (kvs.any fun kv => decide (kv.1 = k)) = vs.any fun kv => decide (kv.1 = k) := by
 unfold KV at r
 induction r with
 | nil => rfl
 | cons h t ih => rw [List.any_cons, List.any_cons, ih, h.1]
theorem KV.repl {kvs : List (κ × V)} {vs : List (κ × Value)} (r : KV kvs vs) (k : κ) {y : V} {u : Value} (ry : RelV y u) :
   KV (kvs.map fun kv => if kv.1 = k then (kv.1, y) else kv) (vs.map fun kv => if kv.1 = k then (kv.1, u) else kv) := by
 unfold KV at r ⊢
 induction r with
 | nil => exact .nil
 | @cons p q ps qs h t ih =>
   rw [List.map_cons, List.map_cons]
   refine .cons ?_ ih
   obtain ⟨h1, h2⟩ := h
   by_cases e : p.1 = k
   · rw [if_pos e, if_pos (h1.symm.trans e)]; exact ⟨h1, ry⟩
   · rw [if_neg e, if_neg (fun z => e (h1.trans z))]; exact ⟨h1, h2⟩
theorem KV.put {kvs : List (κ × V)} {vs : List (κ × Value)} (r : KV kvs vs) (k : κ) {y : V} {u : Value} (ry : RelV y u) : KV (putK kvs k y) (stored vs k u) := by
 unfold putK stored
 rw [r.any k]
 by_cases e : (vs.any fun kv => decide (kv.1 = k)) = true
 · rw [if_pos e, if_pos e]; exact r.repl k ry
 · rw [if_neg e, if_neg e]; exact Paired.snoc r ⟨rfl, ry⟩
theorem KV.length {kvs : List (κ × V)} {vs : List (κ × Value)} (r : KV kvs vs) : kvs.length = vs.length := Paired.length r
end
theorem kV_is {P : Program} {w : World} {k : Key} {u : Value} (r : RelV (kV k) u) : (mixKind P w).is k u = true := by
 cases k with
 | inl i => obtain ⟨t, e⟩ := (show ∃ t, u = Value.int i t from r); subst e; exact mixKind_int P w i t
 | inr x => obtain ⟨t, e⟩ := (show ∃ t, u = Value.str x t from r); subst e; exact mixKind_str P w x t
theorem items_are {P : Program} {w : World} : ∀ {ks : List Key} {us : List Value}, Vals (ks.map kV) us → ItemsAre (mixKind P w) ks us
 | [], _, r => by rw [List.map_nil] at r; cases r; exact .nil
 | k :: ks, _, r => by
   rw [List.map_cons] at r
   cases r with
   | cons h t => exact .cons (kV_is h) (items_are t)
abbrev KT (H : Hp) : List (List Key × V) → List (List Key × Addr × Value) → Prop := Paired fun p q => p.1 = q.1 ∧ H q.2.1 = some (.tup (p.1.map kV)) ∧ RelV p.2 q.2.2
theorem KT.val {H : Hp} {kvs : List (List Key × V)} {xs : List (List Key × Addr × Value)} (r : KT H kvs xs) (k : List Key) : RelO (valV kvs k) ((atKey xs k).map (·.2)) := by
 induction r with
 | nil => exact True.intro
 | @cons p q ps qs h t ih =>
   obtain ⟨h1, _, h2⟩ := h
   by_cases e : p.1 = k
   · have e' : q.1 = k := h1.symm.trans e
     have b : atKey (q :: qs) k = some q.2 := by simp [atKey, List.find?_cons, e']
     rw [valV_pos e, b]; exact h2
   · have e' : ¬ q.1 = k := fun z => e (h1.trans z)
     have b : atKey (q :: qs) k = atKey qs k := by simp [atKey, List.find?_cons, e']
     rw [valV_neg e, b]; exact ih
theorem KT.repl {H : Hp} {kvs : List (List Key × V)} {xs : List (List Key × Addr × Value)} (r : KT H kvs xs) (k : List Key) {y : V} {u : Value} (ry : RelV y u) :
   KT H (kvs.map fun kv => if kv.1 = k then (kv.1, y) else kv) (xs.map (putAt k u)) := by
 induction r with
 | nil => exact .nil
 | @cons p q ps qs h t ih =>
   rw [List.map_cons, List.map_cons]
   refine .cons ?_ ih
   obtain ⟨h1, h2, h3⟩ := h
   unfold putAt
   by_cases e : p.1 = k
   · rw [if_pos e, if_pos (h1.symm.trans e)]; exact ⟨h1, h2, ry⟩
   · rw [if_neg e, if_neg (fun z => e (h1.trans z))]; exact ⟨h1, h2, h3⟩
theorem KT.put {H : Hp} {kvs : List (List Key × V)} {xs : List (List Key × Addr × Value)} (r : KT H kvs xs) (k : List Key) {b : Addr} {y : V} {u : Value} (hb : H b = some (.tup (k.map kV))) (ry : RelV y u) :
   KT H (putK kvs k y) (storedH xs k b u) := by
 have e : (kvs.any fun kv => decide (kv.1 = k)) = (atKey xs k).isSome := by
   rw [valV_any, (r.val k).isSome_eq, Option.isSome_map]
 unfold putK storedH
 rw [e]
 by_cases q : (atKey xs k).isSome = true
 · rw [if_pos q, if_pos q]; exact r.repl k ry
 · rw [if_neg q, if_neg q]; exact Paired.snoc r ⟨rfl, hb, ry⟩
theorem KT.keeps {H H' : Hp} {kvs : List (List Key × V)} {xs : List (List Key × Addr × Value)} (r : KT H kvs xs) (ht : ∀ b ys, H b = some (.tup ys) → H' b = some (.tup ys)) : KT H' kvs xs :=
 Paired.mapP r fun _ _ z => ⟨z.1, ht _ _ z.2.1, z.2.2⟩
section
variable {P : Program} {w : World} {H : Hp} {h : Heap} {a : Addr}
theorem rd_of {u : HO} (ok : HOk P w H h) (e : Rd H a u) : ObjOk P w H h a u := e.ok ok
theorem dk_rd {kvs : List (Key × V)} (ok : HOk P w H h) (e : Rd H a (.dK kvs)) : kvs.length ≤ sizeLine ∧ (a == sysModules) = false ∧ ∃ vs, KV kvs vs ∧ h.DictOf (mixKind P w) a vs :=
 show ObjOk P w H h a (.dK kvs) from rd_of ok e
theorem dk_of {kvs : List (Key × V)} (ok : HOk P w H h) (e : H a = some (.dK kvs)) : kvs.length ≤ sizeLine ∧ (a == sysModules) = false ∧ ∃ vs, KV kvs vs ∧ h.DictOf (mixKind P w) a vs := dk_rd ok (.inl e)
theorem key_of {ks : List Key} (ok : HOk P w H h) (e : H a = some (.tup (ks.map kV))) : (tupleKind (mixKind P w)).is h ks a := by
 obtain ⟨_, its, r, o, h1, h2, n, h3⟩ := (show ObjOk P w H h a (.tup (ks.map kV)) from ok a _ e)
 exact ⟨o, its.toArray, n, h1, h2, h3, by simpa using items_are r⟩
theorem dt_rd {kvs : List (List Key × V)} (ok : HOk P w H h) (e : Rd H a (.dT kvs)) : kvs.length ≤ sizeLine ∧ (a == sysModules) = false ∧
   ∃ xs, KT H kvs xs ∧ h.DictOfH (tupleKind (mixKind P w)) a xs := by
 obtain ⟨z, y, xs, r, o, es, ep, h1, h2, h3, h4, h5⟩ := (show ObjOk P w H h a (.dT kvs) from rd_of ok e)
 refine ⟨z, y, xs, r, o, es, ep, h1, h2, h3, h4, fun x hx => ?_, h5⟩
 have all : ∀ {l : List (List Key × V)} {m : List (List Key × Addr × Value)}, KT H l m → ∀ x ∈ m, (tupleKind (mixKind P w)).is h x.1 x.2.1 := by
   intro l m q
   induction q with
   | nil => intro x hx; exact nomatch hx
   | @cons p q ps qs hq t ih =>
     intro x hx
     rcases List.mem_cons.mp hx with e | hx
     · subst e
       exact key_of ok (by rw [← hq.1]; exact hq.2.1)
     · exact ih x hx
 exact all r x hx
theorem dt_of {kvs : List (List Key × V)} (ok : HOk P w H h) (e : H a = some (.dT kvs)) : kvs.length ≤ sizeLine ∧ (a == sysModules) = false ∧
   ∃ xs, KT H kvs xs ∧ h.DictOfH (tupleKind (mixKind P w)) a xs := dt_rd ok (.inl e)
end
def DGet (H : Hp) (a : Addr) (y : V) (r : Option V) : Prop :=
 (∃ kvs k, Rd H a (.dK kvs) ∧ y = kV k ∧ r = valV kvs k) ∨ ∃ kvs k b, Rd H a (.dT kvs) ∧ y = .ref b ∧ H b = some (.tup (k.map kV)) ∧ r = valV kvs k
def DPut (H : Hp) (a : Addr) (y v : V) (H' : Hp) : Prop :=
 (∃ kvs k, H a = some (.dK kvs) ∧ y = kV k ∧ kvs.length < sizeLine ∧ H' = upd H a (.dK (putK kvs k v))) ∨
 ∃ kvs k b, H a = some (.dT kvs) ∧ y = .ref b ∧ H b = some (.tup (k.map kV)) ∧ kvs.length < sizeLine ∧ H' = upd H a (.dT (putK kvs k v))
section
variable {X : Cx} {pins : List (Addr × Obj)} {σ : St} {H : Hp} {s : Shared} {a : Addr} {y v : V} {u r : Value} {o : Option V} {A : Around} {E : Value → Shared → Prop}
theorem Inv.big (I : Inv X pins σ H s) : sysModules < s.heap.objs.size := by
 have h : mainGlobals < s.heap.objs.size := (I.mod.glob.keeps I.bk).lt
 exact Nat.lt_trans (by decide) h
theorem d_getItem {Q : Value → Shared → Prop} (hu : A.units + 1 < cLine) (I : Inv X pins σ H s) (g : DGet H a y (some v)) (ry : RelV y u) (h : ∀ w' s', Inv X pins σ H s' → RelV v w' → Q w' s') :
   wpAny (model X.prog X.w) A (getItem (.ref a) u) Q E s := by
 rcases g with ⟨kvs, k, e, ey, l⟩ | ⟨kvs, k, b, e, ey, eb, l⟩
 · subst ey
   obtain ⟨z, hd, vs, rel, dd⟩ := dk_rd I.hok e
   obtain ⟨w', hw, rw'⟩ := RelO.some_of (v := v) (o := valueAt vs k) (by rw [l]; exact rel.val k)
   exact wpAny_getItem_of (kV_is ry) dd.mapOf hw (h w' _ (I.tok _) rw')
 · subst ey
   cases (show u = Value.ref b from ry)
   obtain ⟨z, hd, xs, rel, dd⟩ := dt_rd I.hok e
   obtain ⟨w', hw, rw'⟩ := RelO.some_of (v := v) (o := (atKey xs k).map (·.2)) (by rw [l]; exact rel.val k)
   obtain ⟨p, hp, hp2⟩ := Option.map_eq_some_iff.mp hw
   refine wpAny_getItem_heap (tupleKind_room_in1 hu) (key_of I.hok eb) dd hp ?_
   rw [hp2]
   exact h w' _ (I.tok _) rw'
theorem d_write {h' : Heap} {t' : Nat} {ob : HO} (I : Inv X pins σ H s) (mu : Mut (H a)) (hs : Heap.SameBut a s.heap h') (he : ∃ q, h'.get? a = some q) (new : ObjOk X.prog X.w (upd H a ob) h' a ob) :
   Inv X pins σ (upd H a ob) { s with heap := h', toks := t' } :=
 I.write (x := a) (e := a) mu (.inl rfl) (fun b q hb z => (hs.2 b hb).trans z) he new
theorem dk_new {P : Program} {w : World} {H' : Hp} {h' : Heap} {kvs : List (Key × V)} {vs : List (Key × Value)} (z : kvs.length ≤ sizeLine) (hd : (a == sysModules) = false) (rel : KV kvs vs) (dd : h'.DictOf (mixKind P w) a vs) :
   ObjOk P w H' h' a (.dK kvs) := ⟨z, hd, vs, rel, dd⟩
theorem d_setItem {H' : Hp} {Q : Unit → Shared → Prop} (hu : A.units + 1 < cLine) (I : Inv X pins σ H s) (g : DPut H a y v H') (ry : RelV y u) (rv : RelV v r) (h : ∀ s', Inv X pins σ H' s' → Q () s') :
   wpAny (model X.prog X.w) A (setItem (.ref a) u r) Q E s := by
 rcases g with ⟨kvs, k, e, ey, l, eH⟩ | ⟨kvs, k, b, e, ey, eb, l, eH⟩
 · subst ey eH
   obtain ⟨z, hd, vs, rel, dd⟩ := dk_of I.hok e
   have hz : vs.length ≤ sizeLine := by rw [← rel.length]; exact z
   have hl : (putK kvs k v).length ≤ sizeLine := by have := length_putK kvs k v; omega
   refine wpAny_setItem_pairs (hsz := hz) (kV_is ry) dd fun h' dd' hs => h _ ?_
   have he : ∃ q, h'.get? a = some q := let ⟨q, _, _, hq, _⟩ := dd'; ⟨q, hq⟩
   exact d_write I (by rw [e]; exact True.intro) hs he (dk_new hl hd (rel.put k rv) dd')
 · subst ey eH
   cases (show u = Value.ref b from ry)
   obtain ⟨z, hd, xs, rel, dd⟩ := dt_of I.hok e
   have hz : xs.length ≤ sizeLine := by rw [← Paired.length rel]; exact z
   have hl : (putK kvs k v).length ≤ sizeLine := by have := length_putK kvs k v; omega
   refine wpAny_setItem_heap (hsz := hz) (tupleKind_room_in1 hu) (key_of I.hok eb) dd fun h' dd' hs => h _ ?_
   obtain ⟨q, es, ep, hq, h2, h3, h4, _, h5⟩ := dd'
   refine d_write I (by rw [e]; exact True.intro) hs ⟨q, hq⟩ ⟨hl, hd, _, (rel.put k eb rv).keeps fun c ys ec => ?_, q, es, ep, hq, h2, h3, h4, h5⟩
   rw [upd_ne (ne_of ec e (fun z => nomatch z))]
   exact ec
end
def NoSl (i : Expr) : Prop := ∀ ov iv, subscripted i false ov iv = operate [ov, iv] (getItem ov iv)
theorem subD_of {prog : Program} {w : World} {A : Around} {E : Value → Shared → Prop} {s : Shared} {env : Env} {value slice : Expr} {pos : Pos} {T id : String} {Q : Value → Shared → Prop}
   (hl : typeLookup (.type T) "__getitem__" = pure (some (.builtin id))) (hs : NoSl slice)
   (h : wpAny (model prog w) A (eval value env) (fun o s₁ => wpAny (model prog w) A (eval slice env) (fun i s₂ => s₂.TypeIs o T ∧ wpAny (model prog w) A (getItem o i) Q E s₂) E s₁) E s) :
   wpAny (model prog w) A (eval (.Subscript value slice pos) env) Q E s := by
 refine Subscript_ (wpAny_mono h (fun o s₁ h₁ => wpAny_mono h₁ (fun i s₂ h₂ => ?_) fun _ _ x => x) fun _ _ x => x)
 obtain ⟨hT, h₂⟩ := h₂
 unfold subscriptTail
 refine wpAny_bind ?_
 rw [getitemInPython_of_ne hT.not_modules]
 refine wpAny_bind (wpAny_specialOf hT hl ?_)
 have fin : wpAny (model prog w) A (subscripted slice false o i) (fun r s₃ => wpAny (model prog w) A (letTemporaryGo value o r >>= fun _ => pure r) Q E s₃) E s₂ := by
   rw [hs o i]
   exact wpAny_operating (wpAny_mono h₂ (fun r s₃ h₃ => wpAny_bind (wpAny_letTemporaryGo (wpAny_pure h₃))) fun _ _ x => x)
 first
   | exact wpAny_pure (wpAny_bind fin)
   | exact wpAny_bind (wpAny_pure (wpAny_bind fin))
   | exact wpAny_bind fin
theorem dict_typeIs {X : Cx} {pins : List (Addr × Obj)} {σ : St} {H : Hp} {s : Shared} {a : Addr} {y : V} {o : Option V} (I : Inv X pins σ H s) (g : DGet H a y o) : s.TypeIs (.ref a) "dict" := by
 rcases g with ⟨kvs, k, e, _, _⟩ | ⟨kvs, k, b, e, _, _, _⟩
 · obtain ⟨_, _, vs, _, dd⟩ := dk_rd I.hok e
   exact dd.typeIs
 · obtain ⟨_, _, xs, _, dd⟩ := dt_rd I.hok e
   exact dd.typeIs
def tDGet (td ty : TE) : TE := fun σ H Q => td σ H fun x H1 => ty σ H1 fun y H2 => ∃ a v, x = .ref a ∧ DGet H2 a y (some v) ∧ Q v H2
def sDPut (td ty tv : TE) : TS := fun D σ H => tv σ H fun v H1 => td σ H1 fun x H2 => ty σ H2 fun y H3 => ∃ a H4, x = .ref a ∧ DPut H3 a y v H4 ∧ D.nx σ H4
section
variable {X : Cx} {o i e value : Expr} {pos pos' tpos : Pos} {td ty tv : TE}
theorem pe_dget (hu : X.A.units + 1 < cLine) (ho : PE X o td) (hi : PE X i ty) (hs : NoSl i) : PE X (.Subscript o i pos) (tDGet td ty) := by
 intro pins s σ H Q I h
 refine subD_of PySem.F.slot_dict_getitem.lookup hs (thn (ho pins s σ H _ I h) fun u s1 ⟨x, H1, I1, rx, q1⟩ => thn (hi pins s1 σ H1 _ I1 q1) fun iv s2 ⟨y, H2, I2, ry, a, v, ex, g, q2⟩ => ?_)
 subst ex
 obtain rfl : u = Value.ref a := rx
 exact ⟨dict_typeIs I2 g, d_getItem hu I2 g ry fun w' s3 I3 rw' => ⟨v, H2, I3, rw', q2⟩⟩
theorem ps_dput (hu : X.A.units + 1 < cLine) (ho : PE X o td) (hi : PE X i ty) (hv : PE X value tv) (hs : swapsWith value (some (.Subscript o i pos')) pos.line X.env = pure false) :
   PS X (.Assign [.Subscript o i pos'] value pos) (sDPut td ty tv) := by
 intro pins s σ H D I h
 refine wpAny_Assign_Subscript (thn (hv pins s σ H _ I h) fun r s1 ⟨v, H1, I1, rv, q1⟩ => thn (ho pins s1 σ H1 _ I1 q1) fun u s2 ⟨x, H2, I2, rx, q2⟩ => thn (hi pins s2 σ H2 _ I2 q2) fun iv s3 ⟨y, H3, I3, ry, a, H4, ex, g, q3⟩ => ?_) hs
 subst ex
 obtain rfl : u = Value.ref a := rx
 exact d_setItem hu I3 g ry rv fun s4 I4 => ⟨σ, H4, I4, q3⟩
end
theorem dk_empty {P : Program} {w : World} {H : Hp} (h : Heap) (hb : sysModules < h.objs.size) : ObjOk P w H (h.push { cls := .type "dict", data := .dict #[] }) h.objs.size (.dK []) :=
 ⟨Nat.zero_le _, beq_eq_false_iff_ne.mpr (Ne.symm (Nat.ne_of_lt hb)), [], .nil, Heap.DictOf.new h⟩
def tPairs : List (TE × TE) → St → Hp → (List (V × V) → Hp → Prop) → Prop
 | [], _, H, Q => Q [] H
 | (tk, tv) :: r, σ, H, Q => tk σ H fun x H1 => tv σ H1 fun y H2 => tPairs r σ H2 fun ps H3 => Q ((x, y) :: ps) H3
abbrev VV : List (V × V) → List (Value × Value) → Prop := Paired fun p q => RelV p.1 q.1 ∧ RelV p.2 q.2
def PPs (X : Cx) (pos : Pos) (keys : List (Option Expr)) (values : List Expr) (trs : List (TE × TE)) : Prop :=
 ∀ (pins : List (Addr × Obj)) (s : Shared) (σ : St) (H : Hp) (Q : List (V × V) → Hp → Prop), Inv X pins σ H s → tPairs trs σ H Q →
   wpAny (model X.prog X.w) X.A (evalPairs (pairTrees keys values X.env pos)) (fun vs s' => ∃ ps H', Inv X pins σ H' s' ∧ VV ps vs ∧ Q ps H') X.xe s
theorem pps_nil {X : Cx} {pos : Pos} : PPs X pos [] [] [] := fun pins s σ H Q I h => pairTrees_nil_walk ⟨[], H, I, .nil, h⟩
theorem pps_cons {X : Cx} {pos : Pos} {k v : Expr} {ks : List (Option Expr)} {vs : List Expr} {tk tv : TE} {trs : List (TE × TE)} (hk : PE X k tk) (hv : PE X v tv) (hr : PPs X pos ks vs trs) :
   PPs X pos (some k :: ks) (v :: vs) ((tk, tv) :: trs) := fun pins s σ H Q I h =>
 pairTrees_cons_walk (thn (hk pins s σ H _ I h) fun u s1 ⟨x, H1, I1, rx, q1⟩ => thn (hv pins s1 σ H1 _ I1 q1) fun w2 s2 ⟨y, H2, I2, ry, q2⟩ =>
   thn (hr pins s2 σ H2 _ I2 q2) fun ws s3 ⟨ps, H3, I3, rel, q3⟩ => ⟨(x, y) :: ps, H3, I3, .cons ⟨rx, ry⟩ rel, q3⟩)
def mergeK (kvs more : List (Key × V)) : List (Key × V) := more.foldl (fun acc kv => putK acc kv.1 kv.2) kvs
theorem KV.merge : ∀ {more : List (Key × V)} {rs : List (Key × Value)} {kvs : List (Key × V)} {vs : List (Key × Value)}, KV more rs → KV kvs vs → KV (mergeK kvs more) (merged vs rs) := by
 intro more rs kvs vs r
 unfold KV at r
 induction r generalizing kvs vs with
 | nil => intro q; exact q
 | @cons p q ps qs h t ih =>
   intro r0
   have e : KV (putK kvs p.1 p.2) (stored vs q.1 q.2) := by
     have := r0.put p.1 h.2
     rw [← h.1]; exact this
   exact ih e
theorem length_mergeK : ∀ (more kvs : List (Key × V)), (mergeK kvs more).length ≤ kvs.length + more.length
 | [], kvs => by show kvs.length ≤ kvs.length + 0; omega
 | p :: r, kvs => by
   have h1 := length_mergeK r (putK kvs p.1 p.2)
   have h2 := length_putK kvs p.1 p.2
   show (mergeK (putK kvs p.1 p.2) r).length ≤ _
   rw [List.length_cons]; omega
theorem carries_of {P : Program} {w : World} : ∀ {kvs : List (Key × V)} {ws : List (Value × Value)}, VV (kvs.map fun kv => (kV kv.1, kv.2)) ws → ∃ rs, Carries (mixKind P w) ws rs ∧ KV kvs rs
 | [], _, r => by rw [List.map_nil] at r; cases r; exact ⟨[], True.intro, .nil⟩
 | p :: kvs, _, r => by
   rw [List.map_cons] at r
   cases r with
   | @cons a b as bs h t =>
     obtain ⟨rs, c, q⟩ := carries_of (P := P) (w := w) t
     obtain ⟨b1, b2⟩ := b
     exact ⟨(p.1, b2) :: rs, ⟨kV_is h.1, rfl, c⟩, .cons ⟨rfl, h.2⟩ q⟩
def tDisp (trs : List (TE × TE)) : TE := fun σ H Q => ∀ p, H p = none → tPairs trs σ (upd H p (.dK [])) fun ps H2 => H2 p = some (.dK []) ∧ ∃ kvs : List (Key × V), ps = kvs.map (fun kv => (kV kv.1, kv.2)) ∧ kvs.length ≤ 15 ∧ Q (.ref p) (upd H2 p (.dK (mergeK [] kvs)))
theorem pe_disp {X : Cx} {pos : Pos} {keys : List (Option Expr)} {values : List Expr} {trs : List (TE × TE)} (h : PPs X pos keys values trs) (hall : keys.all (·.isSome) = true) (hl : keys.length = values.length) (h0 : keys ≠ [])
   (h15 : keys.length ≤ 15) : PE X (.Dict keys values pos) (tDisp trs) := by
 intro pins s σ H Q I q
 have hn := I.hok.fresh (Nat.le_refl s.heap.objs.size)
 have I1 := I.laid (a := s.heap.objs.size) (o := .dK []) (h' := s.heap.push { cls := .type "dict", data := .dict #[] }) (t' := s.toks) (fun _ _ q => Heap.get?_push_of_some _ q) (Nat.le_refl _) (dk_empty s.heap I.big)
 refine wpAny_Dict_walk (knd := mixKind X.prog X.w) hall hl h0 h15 (thn (h pins _ σ _ _ I1 (q _ hn)) fun ws s2 ⟨ps, H2, I2, rel, e, kvs, ep, lk, q2⟩ => ?_)
 subst ep
 obtain ⟨rs, c, rk⟩ := carries_of (P := X.prog) (w := X.w) rel
 obtain ⟨z, hd, vs0, r0, dd⟩ := dk_of I2.hok e
 cases r0
 refine ⟨rs, c, dd, fun h' dd' hs => ⟨.ref s.heap.objs.size, _, ?_, rfl, q2⟩⟩
 have hz : (mergeK [] kvs).length ≤ sizeLine := by
   have h1 := length_mergeK kvs []
   rw [List.length_nil] at h1
   rw [sizeLine_eq]; omega
 have he : ∃ q, h'.get? s.heap.objs.size = some q := let ⟨q, _, _, hq, _⟩ := dd'; ⟨q, hq⟩
 exact d_write I2 (by rw [e]; exact True.intro) hs he (dk_new hz hd (rk.merge .nil) dd')
end L2
namespace Att
open PySem PySem.W PySem.Calls PyProof.Rows
theorem ints_of_wellAll {P : Params} {h : Heap} : ∀ (ns : List Int) (vs : List Value), WellAll P h vs (ns.map WData.int) → IntsAre vs ns := by
 intro ns
 induction ns with
 | nil =>
   intro vs w
   rw [List.map_nil] at w
   cases w
   exact .nil
 | cons n ns ih =>
   intro vs w
   rw [List.map_cons] at w
   cases w with
   | cons a b =>
     cases a
     exact .cons _ _ (ih _ b)
theorem script_of {l : OpenLaw} {n : Nat} (hn : l.most = some n) {P : Params} {h : Heap} {args : List WData} {vals : List Value}
   (hpre : l.row.toRowW.claim.pre args = true) (hwl : WellAll P h vals args) :
   ∃ a vs ns, vals = [Value.ref a] ∧ args = [WData.list (ns.map WData.int)] ∧ h.get? a = some { cls := .type "list", data := .seq vs.toArray } ∧ IntsAre vs ns ∧ ns.length ≤ n := by
 have hsh : WShape.hasAll [] args [.list .int] = true := (pre_splitW hpre).1
 have hc : l.pre.holds [] { args := args } = true := (pre_splitW hpre).2
 obtain ⟨d, r, rfl, h1, h2⟩ := hasAllW_cons hsh
 obtain rfl := hasAllW_nil h2
 obtain ⟨xs, rfl, h3⟩ := hasW_list h1
 obtain ⟨ns, rfl⟩ := items_int h3
 have hlen : ns.length ≤ n := by
   unfold OpenLaw.pre at hc
   have h4 : (WTm.not (.lt (.lit (.int (n : Int))) (.len (.arg 0)))).holds [] { args := [.list (ns.map .int)] } = true := by
     have h4 := (holds_andW hc).1
     rw [hn] at h4
     exact h4
   have h5 := condW_of h4 (w_not (w_lt w_lit (w_len_list (w_arg rfl))))
   rw [List.length_map] at h5
   refine Nat.le_of_not_lt fun q => ?_
   have q' : (n : Int) < ((ns.length : Nat) : Int) := by omega
   first
     | (rw [decide_eq_true q'] at h5; exact absurd h5 (by decide))
     | (simp at h5; omega)
 cases hwl with
 | cons w1 w2 =>
   cases w2
   cases w1 with
   | list ho hall => exact ⟨_, _, ns, rfl, rfl, ho, ints_of_wellAll ns _ hall, hlen⟩
theorem post_true (l : OpenLaw) (args : List WData) : l.row.toRowW.claim.post args (.bool true) args = true :=
 postW_of (r := l.row.toRowW) (X := (true == true))
   (show WShape.has [] (.bool true) .bool = true by first | rfl | decide | simp [WShape.has, WShape.arms, WShape.armsAll])
   (show (WTm.eq .res (.lit (.bool true))).value [] { args := args, res := some (.bool true), after := args } = some (.bool (true == true)) from w_eq_bool (w_res rfl) w_lit) rfl
theorem attach_call {l : OpenLaw} {n : Nat} {q : Program} {loose : List Str} {XP : (Str → Option Value) → Heap → Prop} {YP : World → Heap → Prop} {d : DefRec}
   (hn : l.most = some n) (hdf : d.params.defaults = [])
   (call : ∀ (w : World) (s₀ s₁ : Shared) (mg mb : Str → Option Value) (fa : Addr) (o : Obj) (pm cd doc : Value) (a : Addr) (vs : List Value) (ns : List Int),
     Ground q loose [] XP w s₀ mg mb s₁.heap → YP w s₁.heap →
     s₁.heap.get? fa = some o → o.data = .func (docDef d.name d.params d.body d.scope pm cd doc) → s₁.heap.CodeRec cd d.name → mg d.name = some (.ref fa) →
     s₁.heap.get? a = some { cls := .type "list", data := .seq vs.toArray } → IntsAre vs ns → ns.length ≤ n → s₁.gens = #[] →
     codeAny (model l.prog w) callerA (.call (.ref fa) ⟨[.ref a], []⟩) (fun r s' => r = .ok (.ret (.bool true)) ∧ OldK s₁.heap s'.heap ∧ s'.os = s₁.os ∧ AllBare s'.gens) s₁) :
   WalkO q loose XP YP l.row.toRowW d [] (fun f vs => PySem.call f vs) := by
 intro w s₀ s₁ mg mb G Y fa o pm cd doc dV kV ho hd hcd hD hmg hg args vals as hpre hlay hrd hwl hlo
 obtain rfl : dV = .none := Dflts.none hD hdf
 obtain rfl : kV = .none := Dflts.noKw hD
 obtain ⟨a, vs, ns, rfl, rfl, hobj, hints, hlen⟩ := script_of hn hpre hwl
 refine enter_call (codeAny_mono (call w s₀ s₁ mg mb fa o pm cd doc a vs ns G Y ho (fd_plain hd) hcd hmg hobj hints hlen hg) fun r s' hq => ?_)
 obtain ⟨rfl, h2, h3, h4⟩ := hq
 exact ⟨.inl ⟨.bool true, .bool true, [], rfl, fun _ => rfl, .bool true, post_true l _, fun _ => ⟨List.Pairwise.nil, fun _ hm => (nomatch hm)⟩⟩, h2, h3, h4⟩
end Att
namespace L2
open PySem PySem.Spec PyProof.Rows
theorem vals_ints : ∀ {vs : List Value} {ns : List Int}, IntsAre vs ns → Vals (ns.map V.int) vs
 | _, _, .nil => .nil
 | _, _, .cons n t h => .cons ⟨t, rfl⟩ (vals_ints h)
def Only (H : Hp) : Prop := ∀ b, H b = none ∨ ∃ o xs, H b = some (.frz o (.lst xs))
theorem law_call {P : Program} {w : World} {K : PySem.W.Frag} {mg mb : Str → Option Value} {CX : CXT} {k : Nat} {fa a : Addr} {fd : FuncData} {x : Str} {sp : Sp} {s₁ : Shared} {vs : List Value} {ns : List Int}
   (KX : K.In s₁.heap) (hns : s₁.heap.Ns mainGlobals mg) (hb : s₁.heap.Ns builtinsNs mb) (hbb : ∀ x : Str, x ≠ "__name__" → mb x = bootBuiltins x) (hlim : s₁.heap.NoLimit) (hg : s₁.gens = #[])
   (ha : s₁.heap.get? a = some { cls := .type "list", data := .seq vs.toArray }) (hi : IntsAre vs ns) (hl : ns.length ≤ sizeLine) (hr : Room k callerA)
   (F : ∀ base : Heap, K.In base → base.Ns mainGlobals mg → FnOk P w K mg base CX k fa fd [x] sp) (hbind : ∀ (s : Shared) (u : Value), BindsTo s fd ⟨[u], []⟩ [(x, u)])
   (hsp : ∀ H : Hp, Only H → SqL K H a (ns.map V.int) → sp [.ref a] H (fun v _ => v = .bl true) fun _ _ _ => False)
   (hCX : ∀ H e s', CX [] H s₁ (fun _ _ _ => False) e s' → False) :
   codeAny (model P w) callerA (.call (.ref fa) ⟨[.ref a], []⟩) (fun r s' => r = .ok (.ret (.bool true)) ∧ OldK s₁.heap s'.heap ∧ s'.os = s₁.os ∧ AllBare s'.gens) s₁ := by
 have rv := vals_ints hi
 have lenV := hi.length
 -- from an abstract heap in which nothing but the script may be tracked
 have core : ∀ H : Hp, Only H → SqL K H a (ns.map V.int) → HOk P w H s₁.heap → (∀ b, H b ≠ none → b = a) → (H a ≠ none → K.lookup a = none) →
     codeAny (model P w) callerA (.call (.ref fa) ⟨[.ref a], []⟩) (fun r s' => r = .ok (.ret (.bool true)) ∧ OldK s₁.heap s'.heap ∧ s'.os = s₁.os ∧ AllBare s'.gens) s₁ := by
   intro H hO hS hok hA hK
   have base_of : ∀ {b : Addr} {o : Obj}, s₁.heap.get? b = some o → H b = none → (hidT s₁.heap H).get? b = some o := fun e n => hidT_get e n
   have noA : ∀ {b : Addr} {o : Obj} {es : Array DictEntry} {ep : Nat}, s₁.heap.get? b = some o → o.data = .dict es ep → H b = none := fun {b o es ep} e d => by
     cases q : H b with
     | none => rfl
     | some u =>
       have e' : b = a := hA b (by rw [q]; simp)
       subst e'
       rw [ha] at e; cases e
       have d' : Data.seq vs.toArray _ = Data.dict es ep := d
       cases d'
   have nsK : ∀ {b : Addr} {m : Str → Option Value}, s₁.heap.Ns b m → (hidT s₁.heap H).Ns b m := fun {b m} ⟨o, es, ep, e, d, r⟩ => ⟨o, es, ep, base_of e (noA e d), d, r⟩
   have hKb : K.In (hidT s₁.heap H) := fun b o e => base_of (KX b o e) (by
     cases q : H b with
     | none => rfl
     | some u =>
       have e' : b = a := hA b (by rw [q]; simp)
       subst e'
       rw [hK (by rw [q]; simp)] at e; cases e)
   have hM : Mod K mg (hidT s₁.heap H) := ⟨hKb, nsK hns, ⟨mb, nsK hb, hbb⟩, let ⟨mc, h1, h2⟩ := hlim; ⟨mc, nsK h1, h2⟩⟩
   have e0 : Env0 P w K mg (hidT s₁.heap H) callerA [] s₁ H := ⟨rfl, hM, fun b o e => of_hidT e, Nat.le_of_eq (hidT_size _ _), trivial, fun b hb => absurd (show b ∈ ([] : List Addr) from hb) (by simp), hok, .of_eq hg⟩
   refine codeAny_mono ((F _ hKb (nsK hns)).run callerA [] s₁ H ⟨[.ref a], []⟩ [.ref a] [.ref a] _ _ hr e0 (hbind s₁ (.ref a)) (.cons rfl .nil) (hsp H hO hS)) fun r s' h => ?_
   cases r with
   | error e => exact (hCX H e s' h).elim
   | ok fl =>
     cases fl with
     | next => exact False.elim h
     | brk => exact False.elim h
     | cont => exact False.elim h
     | ret u =>
       obtain ⟨v, H', os, bare, un, hok', r', q⟩ := h
       have q' : v = .bl true := q
       subst q'
       obtain rfl : u = Value.bool true := r'
       refine ⟨rfl, OldK.of_keep fun b o e => ?_, os, bare⟩
       cases q : H b with
       | none => exact un.keep b o e q (by intro z; exact absurd (show b ∈ ([] : List Addr) from z) (by simp)) (by simp)
       | some u =>
         rcases hO b with z | ⟨ob, xs, z⟩
         · rw [q] at z; cases z
         · have z2 := un.frzs b ob _ z
           obtain ⟨e1, _⟩ := hok b _ z
           obtain ⟨e2, _⟩ := hok' b _ z2
           rw [e] at e1; cases e1
           exact e2
 cases hk : K.lookup a with
 | some o =>
   -- the script is one of the module's own objects
   have e := KX a o hk
   rw [ha] at e
   cases e
   refine core (fun _ => none) (fun _ => .inl rfl) (.inr ⟨_, vs.toArray, _, hk, rfl, rfl, rfl, by rw [List.size_toArray, lenV]; exact hl, by simpa using rv⟩) (fun b u z => by have z' : (none : Option HO) = some u := z; cases z') (fun b z => absurd rfl z) fun z => absurd rfl z
 | none =>
   refine core (fun b => if b = a then some (.frz { cls := .type "list", data := .seq vs.toArray } (.lst (ns.map V.int))) else none) (fun b => ?_) (.inl (.inr ⟨{ cls := .type "list", data := .seq vs.toArray }, if_pos rfl⟩)) (fun b u z => ?_) (fun b z => ?_) fun _ => hk
   · by_cases hb : b = a
     · exact .inr ⟨_, _, if_pos hb⟩
     · exact .inl (if_neg hb)
   · by_cases hb : b = a
     · have z' := (if_pos hb).symm.trans z
       cases z'
       subst hb
       exact ⟨ha, by rw [List.length_map]; exact hl, vs, _, rv, ha⟩
     · have z' := (if_neg hb).symm.trans z
       cases z'
   · by_cases hb : b = a
     · exact hb
     · exact absurd (if_neg hb) z
end L2
namespace L2
open PySem PySem.Spec PyProof.Rows
theorem walk_of {l : PySem.W.OpenLaw} {n k : Nat} {q : Program} {loose : List Str} {XP : (Str → Option Value) → Heap → Prop} {YP : World → Heap → Prop} {d : DefRec} {K : Params → PySem.W.Frag} {CX : World → CXT} {sp : World → Sp} {x : Str}
   (hn : l.most = some n) (hn2 : n ≤ sizeLine) (hdf : d.params.defaults = []) (hr : Room k callerA)
   (hY : ∀ (w : World) (h : Heap), YP w h → (K w.params).In h)
   (F : ∀ (w : World) (mg : Str → Option Value) (fa : Addr) (h : Heap), (K w.params).In h → h.Ns mainGlobals mg → mg d.name = some (.ref fa) →
     ∃ fd : FuncData, (∀ (s : Shared) (u : Value), BindsTo s fd ⟨[u], []⟩ [(x, u)]) ∧
       ∀ base : Heap, (K w.params).In base → base.Ns mainGlobals mg → FnOk l.prog w (K w.params) mg base (CX w) k fa fd [x] (sp w))
   (hsp : ∀ (w : World) (H : Hp) (a : Addr) (ns : List Int), ns.length ≤ n → Only H → SqL (K w.params) H a (ns.map V.int) → sp w [.ref a] H (fun v _ => v = .bl true) fun _ _ _ => False)
   (hCX : ∀ (w : World) (H : Hp) (s : Shared) (e : Value) (s' : Shared), CX w [] H s (fun _ _ _ => False) e s' → False) :
   PySem.W.WalkO q loose XP YP l.row.toRowW d [] (fun f vs => PySem.call f vs) := by
 refine Att.attach_call hn hdf fun w s₀ s₁ mg mb fa o pm cd doc a vs ns G Y ho hd hcd hmg hobj hints hlen hg => ?_
 have KX := hY w _ Y
 obtain ⟨fd, hb, hF⟩ := F w mg fa _ KX G.T.g hmg
 exact law_call KX G.T.g G.T.b G.T.builtins G.T.nolimit hg hobj hints (Nat.le_trans hlen hn2) hr hF hb (fun H hO hS => hsp w H a ns hlen hO hS) fun H e s' => hCX w H s₁ e s'
end L2
namespace L2
open PySem PySem.Spec PyProof.Rows
def defArgs (s : Stmt) : Arguments := match s with
 | .FunctionDef _ a _ _ _ _ _ _ _ _ => a
 | _ => { posonlyargs := [], args := [], vararg := none, kwonlyargs := [], kw_defaults := [], kwarg := none, defaults := [] }
def defBody (s : Stmt) : List Stmt := match s with
 | .FunctionDef _ _ b _ _ _ _ _ _ _ => b
 | _ => []
def defScope (s : Stmt) : Scope := match s with
 | .FunctionDef _ _ _ _ _ _ sc _ _ _ => sc
 | _ => { kind := .function, names := [], isGenerator := false, isCoroutine := false }
abbrev CX0 : CXT := fun _ _ _ _ _ _ => False
abbrev E0 : XK := fun _ _ _ => False
theorem pass0 {X : Cx} : Passes CX0 X E0 := fun _ _ _ _ _ _ _ h => h.elim
structure Fun (K : PySem.W.Frag) (x qual : Str) (st : Stmt) (f : Addr) (fd : FuncData) : Prop where
 ex : ∃ (oc : Value) (od : Option Addr) (kV doc pm : Value) (an : Option Addr) (cdv ct : Value) (osl : Array (Option Value)),
   fd = PySem.W.fnOf x qual (defArgs st) (defBody st) (defScope st) .none kV doc pm an cdv ct ∧ K.lookup f = some ⟨oc, od, .func fd, osl⟩ ∧ PySem.W.codeIn K cdv qual = true
 kp : PySem.W.keepIn K (.ref f) = true
section
variable {P : Program} {w : World} {K : PySem.W.Frag} {mg : Str → Option Value} {base : Heap}
theorem Fun.ok {x qual : Str} {st : Stmt} {f : Addr} {fd : FuncData} {N ps : List Str} {k : Nat} {sp : Sp} (F : Fun K x qual st f fd) (S : FnScope N ps (defScope st)) (len : ∀ vs H Q E, sp vs H Q E → vs.length = ps.length)
   (hbody : ∀ (cdv : Value) (A : Around) (outer : List Env) (s : Shared) (H : Hp) (vs : List V) (Q : VK) (E : XK), Room k (A.deeper (envOfC qual (defScope st) s.heap.objs.size f cdv)) → sp vs H Q E →
     ∃ t, PSs (cxOf CX0 P w K mg base N qual (defScope st) f cdv A outer s H E).nox (defBody st) t ∧ t { nx := fun _ H' => Q .non H', rt := Q } (start N vs) H) : FnOk P w K mg base CX0 (k + 1) f fd ps sp := by
 obtain ⟨oc, od, kV, doc, pm, an, cdv, ct, osl, rfl, lk, hcd⟩ := F.ex
 refine fn_of lk hcd S len fun A outer s H vs Q E hr hsp => ?_
 obtain ⟨t, h, q⟩ := hbody cdv A outer s H vs Q E hr hsp
 exact ⟨t, h.nox, q⟩
theorem Fun.binds {x qual : Str} {st : Stmt} {f : Addr} {fd : FuncData} {ps : List Str} (F : Fun K x qual st f fd)
   (h : ∀ (kV doc pm : Value) (an : Option Addr) (cdv ct : Value) (us : List Value), us.length = ps.length → bindArgs (PySem.W.fnOf x qual (defArgs st) (defBody st) (defScope st) .none kV doc pm an cdv ct) ⟨us, []⟩ = pure (ps.zip us)) : Binds K fd ps [] := by
 obtain ⟨oc, od, kV, doc, pm, an, cdv, ct, osl, rfl, lk, hcd⟩ := F.ex
 exact .all (h kV doc pm an cdv ct)
theorem fun_mk {x qual : Str} {st : Stmt} {f : Addr} {oc : Value} {od an : Option Addr} {osl : Array (Option Value)} {kV doc pm cdv ct : Value} (l : K.lookup f = some ⟨oc, od, .func (PySem.W.fnOf x qual (defArgs st) (defBody st) (defScope st) .none kV doc pm an cdv ct), osl⟩)
   (c : PySem.W.codeIn K cdv qual = true) (k : PySem.W.keepIn K (.ref f) = true) : Fun K x qual st f (PySem.W.fnOf x qual (defArgs st) (defBody st) (defScope st) .none kV doc pm an cdv ct) := ⟨⟨oc, od, kV, doc, pm, an, cdv, ct, osl, rfl, l, c⟩, k⟩
end
theorem hu_of {A : Around} {k : Nat} (hr : Room k A) : A.units + 1 < cLine := Nat.lt_of_le_of_lt (Nat.add_le_add_left (by decide : 1 ≤ 64) _) hr.units
theorem iteF {A B : Prop} (h : B) : if false = true then A else B := by
 rw [if_neg Bool.false_ne_true]
 exact h
theorem iteT {A B : Prop} (h : A) : if true = true then A else B := by
 rw [if_pos rfl]
 exact h
theorem ite2 {c A B : Prop} [Decidable c] (h1 : c → A) (h2 : ¬ c → B) : if c then A else B := by
 by_cases h : c
 · rw [if_pos h]
   exact h1 h
 · rw [if_neg h]
   exact h2 h
def Same (H H' : Hp) : Prop := ∀ b o, H b = some o → H' b = some o
theorem Same.refl (H : Hp) : Same H H := fun _ _ h => h
theorem Same.trans {H H1 H2 : Hp} (a : Same H H1) (b : Same H1 H2) : Same H H2 := fun c o h => b c o (a c o h)
theorem Same.free {H H' : Hp} (e : Same H H') {l : Addr} (h : H' l = Option.none) : H l = Option.none := by
 cases q : H l with
 | none => rfl
 | some o =>
   rw [e l o q] at h
   cases h
theorem Same.seq {K : PySem.W.Frag} {H H' : Hp} {a : Addr} {xs : List V} (e : Same H H') (h : SqL K H a xs) : SqL K H' a xs := by
 rcases h with (h | ⟨o, h⟩) | h
 · exact .inl (.inl (e _ _ h))
 · exact .inl (.inr ⟨o, e _ _ h⟩)
 · exact .inr h
end L2
set_option maxHeartbeats 4000000
namespace L3
open PySem PySem.Spec
open PyProof.Rows hiding St
open L2
theorem forIn_pure {α β : Type} {l : List α} {f : α → β → Sem (ForInStep β)} (g : α → β → β) : ∀ (c : β), (∀ x ∈ l, ∀ c, f x c = pure (.yield (g x c))) → forIn l c f = pure (l.foldl (fun c x => g x c) c) := by
 induction l with
 | nil => intro c _; rfl
 | cons x l ih =>
   intro c h
   rw [List.forIn_cons, h x List.mem_cons_self, pure_bind]
   exact ih (g x c) fun y hy => h y (List.mem_cons_of_mem _ hy)
def clOf (ns : List (Str × NameKind)) (env : Env) : List (Str × Addr) := ns.foldl (fun cs x => if x.2 == .free then (x.1, (env.cells.lookup x.1).getD 0) :: cs else cs) []
theorem closure_ok {scope : Scope} {env : Env} (h : ∀ p ∈ scope.names, p.2 = .free → ∃ c, env.cells.lookup p.1 = some c) : closureFor scope env = pure (clOf scope.names env) := by
 simp only [closureFor]
 unfold clOf
 rw [forIn_pure (fun (x : Str × NameKind) (cs : List (Str × Addr)) => if x.2 == .free then (x.1, (env.cells.lookup x.1).getD 0) :: cs else cs)]
 · rfl
 · intro x hx c
   obtain ⟨n, k⟩ := x
   dsimp only
   by_cases hk : k = .free
   · subst hk
     obtain ⟨a, ha⟩ := h _ hx rfl
     have ha' : env.cells.lookup n = some a := ha
     simp only [beq_self_eq_true, if_true, cellOf, ha', pure_bind, Option.getD_some]
   · have hb : (k == NameKind.free) = false := by simpa using hk
     simp only [hb, Bool.false_eq_true, if_false]
theorem cl_fold {env : Env} {x : Str} : ∀ (ns : List (Str × NameKind)) (acc : List (Str × Addr)) (c : Addr),
   (ns.foldl (fun cs y => if y.2 == .free then (y.1, (env.cells.lookup y.1).getD 0) :: cs else cs) acc).lookup x = some c → acc.lookup x = some c ∨ ((x, NameKind.free) ∈ ns ∧ c = (env.cells.lookup x).getD 0) := by
 intro ns
 induction ns with
 | nil => intro acc c h; exact .inl h
 | cons y r ih =>
   intro acc c h
   obtain ⟨n, k⟩ := y
   rw [List.foldl_cons] at h
   rcases ih _ c h with h1 | ⟨h1, h2⟩
   · by_cases hk : k = .free
     · subst hk
       simp only [beq_self_eq_true, if_true] at h1
       by_cases hx : x = n
       · subst hx
         rw [List.lookup_cons_self] at h1
         cases h1
         exact .inr ⟨List.mem_cons_self, rfl⟩
       · have hb : (x == n) = false := by simpa using hx
         rw [List.lookup_cons, hb] at h1
         exact .inl h1
     · have hb : (k == NameKind.free) = false := by simpa using hk
       simp only [hb, Bool.false_eq_true, if_false] at h1
       exact .inl h1
   · exact .inr ⟨List.mem_cons_of_mem _ h1, h2⟩
theorem cl_fold_has {env : Env} {x : Str} : ∀ (ns : List (Str × NameKind)) (acc : List (Str × Addr)), (acc.lookup x).isSome = true ∨ (x, NameKind.free) ∈ ns →
   ((ns.foldl (fun cs y => if y.2 == .free then (y.1, (env.cells.lookup y.1).getD 0) :: cs else cs) acc).lookup x).isSome = true := by
 intro ns
 induction ns with
 | nil => intro acc h; rcases h with h | h
          · exact h
          · exact absurd h (by simp)
 | cons y r ih =>
   intro acc h
   obtain ⟨n, k⟩ := y
   rw [List.foldl_cons]
   refine ih _ ?_
   by_cases hk : k = .free
   · subst hk
     simp only [beq_self_eq_true, if_true]
     by_cases hx : x = n
     · subst hx
       left
       rw [List.lookup_cons_self]
       rfl
     · have hb : (x == n) = false := by simpa using hx
       rw [List.lookup_cons, hb]
       rcases h with h | h
       · exact .inl h
       · rcases List.mem_cons.mp h with z | z
         · injection z with z1 _
           exact absurd z1 hx
         · exact .inr z
   · have hb : (k == NameKind.free) = false := by simpa using hk
     simp only [hb, Bool.false_eq_true, if_false]
     rcases h with h | h
     · exact .inl h
     · rcases List.mem_cons.mp h with z | z
       · injection z with _ z2
         exact absurd z2.symm hk
       · exact .inr z
theorem cl_of {ns : List (Str × NameKind)} {env : Env} {x : Str} {c : Addr} (h : (clOf ns env).lookup x = some c) : (x, NameKind.free) ∈ ns ∧ c = (env.cells.lookup x).getD 0 := by
 rcases cl_fold ns [] c h with z | z
 · cases z
 · exact z
theorem cl_has {ns : List (Str × NameKind)} {env : Env} {x : Str} {c : Addr} (h : (x, NameKind.free) ∈ ns) (e : env.cells.lookup x = some c) : (clOf ns env).lookup x = some c := by
 obtain ⟨d, hd⟩ := Option.isSome_iff_exists.mp (cl_fold_has (env := env) ns [] (.inr h))
 have hd' : (clOf ns env).lookup x = some d := hd
 rw [hd', (cl_of hd').2, e]
 rfl
theorem lookup_relabel {env : Env} {x : Str} : ∀ (names : List (Str × NameKind)),
   (names.map fun (n, k) => if (k == NameKind.free && env.scope.kind == .function && env.kindOf n == some .cell) then (n, NameKind.cell) else (n, k)).lookup x =
     (names.lookup x).map fun k => if (k == NameKind.free && env.scope.kind == .function && env.kindOf x == some .cell) then NameKind.cell else k
 | [] => rfl
 | (n, k) :: r => by
   have ih := lookup_relabel (env := env) (x := x) r
   show List.lookup x ((if (k == NameKind.free && env.scope.kind == .function && env.kindOf n == some .cell) = true then (n, NameKind.cell) else (n, k)) :: _) = _
   by_cases hx : x = n
   · subst hx
     by_cases hc : (k == NameKind.free && env.scope.kind == .function && env.kindOf x == some .cell) = true
     · rw [if_pos hc, List.lookup_cons_self, List.lookup_cons_self, Option.map_some, if_pos hc]
     · rw [if_neg hc, List.lookup_cons_self, List.lookup_cons_self, Option.map_some, if_neg hc]
   · have hb : (x == n) = false := by simpa using hx
     by_cases hc : (k == NameKind.free && env.scope.kind == .function && env.kindOf n == some .cell) = true
     · rw [if_pos hc, List.lookup_cons, hb, List.lookup_cons, hb]; exact ih
     · rw [if_neg hc, List.lookup_cons, hb, List.lookup_cons, hb]; exact ih
theorem cf_ok {x : Str} {c : Addr} : ∀ (names : List (Str × NameKind)) (h : Heap) (acc : List (Str × Addr)), (cellsFrom h.objs.size names acc).lookup x = some c →
   acc.lookup x = some c ∨ ((x, NameKind.cell) ∈ names ∧ h.objs.size ≤ c ∧ (pushCells h names).IsCell c none)
 | [], _, _, e => .inl e
 | (n, k) :: r, h, acc, e => by
   unfold cellsFrom at e
   unfold pushCells
   by_cases hk : k = .cell
   · subst hk
     simp only [beq_self_eq_true, if_true] at e ⊢
     rw [← Heap.size_push h { cls := .type "cell", data := .cell none }] at e
     rcases cf_ok r _ _ e with z | ⟨z1, z2, z3⟩
     · by_cases hx : x = n
       · subst hx
         rw [List.lookup_cons_self] at z
         cases z
         exact .inr ⟨List.mem_cons_self, Nat.le_refl _, ⟨_, pushCells_keeps r _ _ _ (Heap.get?_push_size _ rfl), rfl⟩⟩
       · have hb : (x == n) = false := by simpa using hx
         rw [List.lookup_cons, hb] at z
         exact .inl z
     · rw [Heap.size_push] at z2
       exact .inr ⟨List.mem_cons_of_mem _ z1, by omega, z3⟩
   · have hb : (k == NameKind.cell) = false := by simpa using hk
     simp only [hb, Bool.false_eq_true, if_false] at e ⊢
     rcases cf_ok r h acc e with z | ⟨z1, z2, z3⟩
     · exact .inl z
     · exact .inr ⟨List.mem_cons_of_mem _ z1, z2, z3⟩
theorem cf_has {x : Str} : ∀ (names : List (Str × NameKind)) (n : Nat) (acc : List (Str × Addr)), (x, NameKind.cell) ∉ names → (cellsFrom n names acc).lookup x = acc.lookup x
 | [], _, _, _ => rfl
 | (y, k) :: r, n, acc, h => by
   have hr : (x, NameKind.cell) ∉ r := fun z => h (List.mem_cons_of_mem _ z)
   unfold cellsFrom
   by_cases hk : k = .cell
   · subst hk
     simp only [beq_self_eq_true, if_true]
     have hx : (x == y) = false := by
       have : x ≠ y := fun z => h (by rw [z]; exact List.mem_cons_self)
       simpa using this
     rw [cf_has r _ _ hr, List.lookup_cons, hx]
   · have hb : (k == NameKind.cell) = false := by simpa using hk
     simp only [hb, Bool.false_eq_true, if_false]
     exact cf_has r n acc hr
theorem cf_inj : ∀ (names : List (Str × NameKind)) (n : Nat) (acc : List (Str × Addr)), (∀ x c, acc.lookup x = some c → c < n) → (∀ x y c, acc.lookup x = some c → acc.lookup y = some c → x = y) →
   ∀ x y c, (cellsFrom n names acc).lookup x = some c → (cellsFrom n names acc).lookup y = some c → x = y
 | [], _, _, _, hi => hi
 | (a, k) :: r, n, acc, hb, hi => by
   unfold cellsFrom
   by_cases hk : k = .cell
   · subst hk
     simp only [beq_self_eq_true, if_true]
     have lk : ∀ x c, ((a, n) :: acc).lookup x = some c → (x = a ∧ c = n) ∨ (x ≠ a ∧ acc.lookup x = some c) := fun x c e => by
       by_cases hx : x = a
       · subst hx; rw [List.lookup_cons_self] at e; cases e; exact .inl ⟨rfl, rfl⟩
       · have hz : (x == a) = false := by simpa using hx
         rw [List.lookup_cons, hz] at e
         exact .inr ⟨hx, e⟩
     refine cf_inj r (n + 1) _ (fun x c e => ?_) fun x y c e1 e2 => ?_
     · rcases lk x c e with ⟨_, z⟩ | ⟨_, z⟩
       · rw [z]; exact Nat.lt_succ_self _
       · exact Nat.lt_succ_of_lt (hb x c z)
     · rcases lk x c e1 with ⟨z1, w1⟩ | ⟨z1, w1⟩ <;> rcases lk y c e2 with ⟨z2, w2⟩ | ⟨z2, w2⟩
       · rw [z1, z2]
       · exact absurd (hb y c w2) (by rw [w1]; exact Nat.lt_irrefl _)
       · exact absurd (hb x c w1) (by rw [w2]; exact Nat.lt_irrefl _)
       · exact hi x y c w1 w2
   · have hz : (k == NameKind.cell) = false := by simpa using hk
     simp only [hz, Bool.false_eq_true, if_false]
     exact cf_inj r n acc hb hi
theorem new_env_cl {M : Model} {A : Around} {E : Value → Shared → Prop} {s : Shared} {scope : Scope} {globals : Addr} {cl : List (Str × Addr)} {qual : Str} {code : Value} {env : Env} {builtins : Addr} {Q : Env → Shared → Prop}
   (h : ∀ h', h'.Ns s.heap.objs.size (fun _ => none) → (∀ b o, s.heap.get? b = some o → h'.get? b = some o) → (∀ x c, (cellsFrom (s.heap.objs.size + 1) scope.names cl).lookup x = some c → cl.lookup x = some c ∨ ((x, NameKind.cell) ∈ scope.names ∧ s.heap.objs.size + 1 ≤ c ∧ h'.IsCell c none)) →
     Q (newEnv scope s.heap.objs.size globals (cellsFrom (s.heap.objs.size + 1) scope.names cl) qual none code (some env) builtins) { s with heap := h' }) :
   wpAny M A (newFunctionEnv scope globals cl [] qual none code (some env) builtins) Q E s := by
 simp only [newFunctionEnv, Option.isSome_some, if_true]
 refine wpAny_bind (wpAny_alloc ?_)
 refine wpAny_bind (wpAny_layCells _ (fun name kind cells => by cases hkc : kind == NameKind.cell <;> simp [hkc]) _ _ _ _ ?_)
 rw [show ({ s with heap := s.heap.push { cls := .type "dict", data := .dict #[] } } : Shared).heap.objs.size = s.heap.objs.size + 1 from Heap.size_push ..]
 rw [List.forIn_nil]
 refine wpAny_bind (wpAny_pure (wpAny_pure (h _ ((Heap.Ns.new s.heap (.type "dict")).keeps (pushCells_keeps _ _)) (fun b o e => pushCells_keeps _ _ b o (Heap.get?_push_of_some _ e)) fun x c e => ?_)))
 have := cf_ok scope.names (s.heap.push { cls := .type "dict", data := .dict #[] }) cl (x := x) (c := c) (by rw [Heap.size_push]; exact e)
 rwa [Heap.size_push] at this
def compCx (X : Cx) (scope : Scope) (N' : List Str) (C : Addr) (s : Shared) (H : Hp) (ex : List Addr) : Cx :=
 { X with N := N', s₀ := s, H₀ := H, env := compEnvC scope (cellsFrom (C + 1) scope.names (clOf scope.names X.env)) C X.env, outer := X.stack, stack := X.stack, ex := ex, fn := fun x => scope.names.lookup x == some .cell, pn := [], xe := fun _ _ => False }
def scopeOk (h : Nat) (N' N : List Str) (names sc : List (Str × NameKind)) : Bool :=
 decide (N'.length = h + N.length) && decide N'.Nodup
 && (names.all fun p => (p.2 != .cell || names.lookup p.1 == some .cell) && (p.2 != .local || names.lookup p.1 == some .local) && (p.2 != .free || (names.lookup p.1 == some .free && (sc.lookup p.1 == some .cell || sc.lookup p.1 == some .free))))
 && (((N'.drop h).zip N).all fun p => match names.lookup p.1 with | some .free => p.1 == p.2 | some .local => false | some .cell => false | _ => true)
structure ScopeOk (h : Nat) (N' N : List Str) (scope : Scope) (sc : Scope) : Prop where
 kind : scope.kind = .function
 len : N'.length = h + N.length
 nd : N'.Nodup
 cell : ∀ y ∈ scope.names, y.2 = .cell → scope.names.lookup y.1 = some .cell
 loc : ∀ y ∈ scope.names, y.2 = .local → scope.names.lookup y.1 = some .local
 free : ∀ y ∈ scope.names, y.2 = .free → scope.names.lookup y.1 = some .free ∧ (sc.names.lookup y.1 = some .cell ∨ sc.names.lookup y.1 = some .free)
 out : ∀ (i : Nat) (x : Str) (k : NameKind), N'[h + i]? = some x → scope.names.lookup x = some k → (k = .local ∨ k = .cell ∨ k = .free) → N[i]? = some x ∧ k = .free
theorem ScopeOk.of {h : Nat} {N' N : List Str} {scope sc : Scope} (hk : scope.kind = .function) (e : scopeOk h N' N scope.names sc.names = true) : ScopeOk h N' N scope sc := by
 unfold scopeOk at e
 simp only [Bool.and_eq_true, decide_eq_true_eq, List.all_eq_true] at e
 obtain ⟨⟨⟨e1, e2⟩, e3⟩, e4⟩ := e
 refine ⟨hk, e1, e2, fun y hy z => ?_, fun y hy z => ?_, fun y hy z => ?_, fun i x k hx hl hkk => ?_⟩
 · have := e3 y hy
   rw [z] at this
   simpa using this
 · have := e3 y hy
   rw [z] at this
   simpa using this
 · have := e3 y hy
   rw [z] at this
   simpa using this
 · have h1 : (N'.drop h)[i]? = some x := by rw [List.getElem?_drop]; exact hx
   have hi : i < N.length := by
     obtain ⟨z, _⟩ := List.getElem?_eq_some_iff.mp hx
     omega
   have h2 : N[i]? = some N[i] := List.getElem?_eq_getElem hi
   have hm : (x, N[i]) ∈ (N'.drop h).zip N := by
     refine List.mem_of_getElem? (i := i) ?_
     rw [List.getElem?_zip_eq_some]
     exact ⟨h1, h2⟩
   have q := e4 _ hm
   rw [hl] at q
   rcases hkk with rfl | rfl | rfl
   · exact absurd q (by simp)
   · exact absurd q (by simp)
   · have q' : x = N[i] := by simpa using q
     exact ⟨by rw [h2, ← q'], rfl⟩
def PF (X : Cx) (ifs : List Expr) (t : TT) : Prop :=
 ∀ (pins : List (Addr × Obj)) (s : Shared) (σ : St) (H : Hp) (Q : Bool → Hp → Prop), Inv X pins σ H s → t σ H Q →
   wpAny (model X.prog X.w) X.A (forIn ifs true fun c r => if r = true then do let ok ← isTrue c X.env (eval c X.env); pure (ForInStep.yield ok) else pure (ForInStep.yield r)) (TP X pins σ Q) X.xe s
def tYes : TT := fun _ H Q => Q true H
theorem pf_nil {X : Cx} : PF X [] tYes := fun _ _ _ H _ I h => wpAny_tests_nil ⟨H, I, h⟩
theorem pf_one {X : Cx} {c : Expr} {t : TT} (h : PT X c t) : PF X [c] t := fun pins s σ H Q I q => wpAny_tests_one (h pins s σ H Q I q)
def OwnG (h : Nat) (g : TG) : Prop := ∀ v (σ : St) H Q, h ≤ σ.length → g v σ H Q → g v σ H fun σ2 H2 => Q σ2 H2 ∧ σ2.length = σ.length ∧ σ2.drop h = σ.drop h
theorem own_name {h i : Nat} (hi : i < h) : OwnG h (gName i) := fun v σ H Q hl q => ⟨q, by simp, by rw [List.drop_set_of_lt hi]⟩
def tComp (h : Nat) (wi : TI) (g : TG) (tf : TT) (te : TE) : TE := fun σ H Q => wi σ H fun J H1 => ∀ D, H1 D = none → ∃ W : Nat → Nat → List V → Hp → Prop, (∃ m, W 0 m [] (upd H1 D (.lst []))) ∧ ∀ i m ys H, W i m ys H →
 H D = some (.lst ys) ∧ ((J.stop i H ∧ Q (.ref D) H) ∨ (J.go i H ∧ ∀ x H', J.yld i H x H' → g x (List.replicate h none ++ σ) H' fun σ2 H2 => tf σ2 H2 fun c H3 =>
   if c = true then te σ2 H3 fun y H4 => H4 D = some (.lst ys) ∧ ys.length < sizeLine ∧ ∃ m', m' < m ∧ W (i + 1) m' (ys ++ [y]) (upd H4 D (.lst (ys ++ [y]))) else ∃ m', m' < m ∧ W (i + 1) m' ys H3))
theorem compLoop_go {prog : Program} {w : World} {A : Around} {R : Result → Shared → Prop} {s : Shared} {elt target iter : Expr} {ifs : List Expr} {scope : Scope} {pos : Pos} {it acc : Value} {env : Env} (I : Nat → Shared → Prop)
   (turn : ∀ n s, I n s → wpAny (model prog w) A (pyNext it) (fun r s₁ => match r with
     | none => R (.ok .next) s₁
     | some v => wpAny (model prog w) A (letOwnedTupleGo target it v) (fun _ s₀ => wpAny (model prog w) A (assign target env v) (fun _ s₂ =>
         wpAny (model prog w) A (forIn ifs true fun c r => if r = true then do let ok ← isTrue c env (eval c env); pure (ForInStep.yield ok) else pure (ForInStep.yield r)) (fun ok s₃ =>
           if ok = true then wpAny (model prog w) A (eval elt env) (fun x s₄ =>
             wpAny (model prog w) A (call (.builtin "list.append") [acc, x]) (fun _ s₅ => ∃ m, m < n ∧ I m s₅) (fun _ _ => False) s₄) (fun _ _ => False) s₃
           else ∃ m, m < n ∧ I m s₃) (fun _ _ => False) s₂) (fun _ _ => False) s₀) (fun _ _ => False) s₁) (fun _ _ => False) s)
   (n : Nat) (h : I n s) : codeAny (model prog w) A (.compLoop (.ListComp elt [⟨target, iter, ifs, 0⟩] scope pos) 0 it acc env) R s := by
 refine codeAny_loop rfl I (fun n s hI => ?_) n h
 show wpAny _ A ((compTurn (.ListComp elt [⟨target, iter, ifs, 0⟩] scope pos) 0 it acc env).onRaise (fun x => do noteFrame x env; theTreesLotGoes x)) _ _ s
 refine wpAny_noted ?_
 rw [compTurn_list]
 refine wpAny_bind (wpAny_standAt (wpAny_bind (wpAny_mono (turn n s hI) (fun r s₁ h₁ => ?_) fun _ _ h' => h'.elim)))
 cases r with
 | none => exact wpAny_pure h₁
 | some v =>
   refine wpAny_bind (wpAny_mono h₁ (fun _ s₀ h₀ => ?_) fun _ _ h' => h'.elim)
   refine wpAny_bind (wpAny_mono h₀ (fun _ s₂ h₂ => wpAny_bind (wpAny_mono h₂ (fun ok s₃ h₃ => ?_) fun _ _ h' => h'.elim)) fun _ _ h' => h'.elim)
   cases ok with
   | false => exact wpAny_pure ⟨rfl, h₃⟩
   | true =>
     exact wpAny_bind (wpAny_bind (wpAny_mono h₃ (fun x s₄ h₄ => wpAny_bind (wpAny_mono h₄ (fun _ s₅ h₅ => wpAny_pure (wpAny_pure ⟨rfl, h₅⟩)) fun _ _ h' => h'.elim)) fun _ _ h' => h'.elim))
section
variable {X : Cx} {pins : List (Addr × Obj)} {σ : St} {H : Hp} {s : Shared}
theorem comp_cl {h : Nat} {N' : List Str} {scope : Scope} (I : Inv X pins σ H s) (S : ScopeOk h N' X.N scope X.env.scope) : ∀ x c, (clOf scope.names X.env).lookup x = some c → X.env.cells.lookup x = some c := fun x c e => by
 obtain ⟨h1, h2⟩ := cl_of e
 obtain ⟨d, hd⟩ := I.ok.has x (S.free _ h1 rfl).2
 rw [hd] at h2 ⊢
 rw [h2]; rfl
theorem comp_nf {h : Nat} {N' : List Str} {scope : Scope} (S : ScopeOk h N' X.N scope X.env.scope) {x : Str} (hf : (x, NameKind.free) ∈ scope.names) : (x, NameKind.cell) ∉ scope.names := fun z => by
 have a := (S.free _ hf rfl).1
 have b := S.cell _ z rfl
 rw [show scope.names.lookup x = some .free from a] at b
 cases b
theorem comp_cells {h : Nat} {N' : List Str} {scope : Scope} (I : Inv X pins σ H s) (S : ScopeOk h N' X.N scope X.env.scope) : ∀ x c, (cellsFrom (s.heap.objs.size + 1) scope.names (clOf scope.names X.env)).lookup x = some c → X.env.cells.lookup x = some c ∨ ((x, NameKind.cell) ∈ scope.names ∧ s.heap.objs.size + 1 ≤ c) := fun x c e => by
 have z := cf_ok scope.names (s.heap.push { cls := .type "dict", data := .dict #[] }) (clOf scope.names X.env) (x := x) (c := c) (by rw [Heap.size_push]; exact e)
 rw [Heap.size_push] at z
 rcases z with z | ⟨z1, z2, _⟩
 · exact .inl (comp_cl I S x c z)
 · exact .inr ⟨z1, z2⟩
theorem comp_below {h : Nat} {N' : List Str} {scope : Scope} (I : Inv X pins σ H s) (S : ScopeOk h N' X.N scope X.env.scope) : ∀ x c, (clOf scope.names X.env).lookup x = some c → c < s.heap.objs.size + 1 := fun x c e => by
 obtain ⟨v, o, ho, _⟩ := I.cell x c (comp_cl I S x c e)
 exact Nat.lt_succ_of_lt (Heap.lt_size ho)
theorem comp_ok {h : Nat} {N' : List Str} {scope : Scope} {fp : List Addr} (I : Inv X pins σ H s) (S : ScopeOk h N' X.N scope X.env.scope) (hf : ∀ b ∈ fp, FpOk X pins H b) (hlt : ∀ b ∈ fp, b < s.heap.objs.size) :
   (compCx X scope N' s.heap.objs.size s H fp).Ok := by
 have cl := comp_cells I S
 refine ⟨I.ok.mod, ?_, I.ok.glob, I.ok.blt, Nat.le_refl _, cf_inj _ _ _ (comp_below I S) fun x y c e1 e2 => I.ok.inj x y c (comp_cl I S x c e1) (comp_cl I S y c e2), fun x hx => ?_, fun x c z e => ?_, I.ok.hd, I.ok.frames, .inl rfl, fun b hb => ⟨Nat.ne_of_lt (hlt b hb), fun x c e => (cl x c e).elim (fun z => (hf b hb).2.2.2.2.1 x c z) fun z w => Nat.lt_irrefl _ (Nat.lt_of_lt_of_le (hlt b hb) (Nat.le_of_succ_le (w ▸ z.2)))⟩, fun b o e => I.bs b o e, Nat.le_trans I.ok.bsz I.sz, fun b o e hb => ?_, fun b hb z => ?_, I.stack, I.stkFree⟩
 · exact S.kind
 · have hx' : (relabel scope X.env).names.lookup x = some .cell ∨ (relabel scope X.env).names.lookup x = some .free := hx
   have e := lookup_relabel (env := X.env) (x := x) scope.names
   have hl : scope.names.lookup x = some .free ∨ scope.names.lookup x = some .cell := by
     cases q : scope.names.lookup x with
     | none => rw [q] at e; rcases hx' with z | z <;> (have z' := e.symm.trans z; cases z')
     | some k =>
       rw [q, Option.map_some] at e
       by_cases hk : k = .free
       · rw [hk]; exact .inl rfl
       · have hc : ¬ (k == NameKind.free && X.env.scope.kind == .function && X.env.kindOf x == some .cell) = true := by
           have : (k == NameKind.free) = false := by simpa using hk
           rw [this]; simp
         rw [if_neg hc] at e
         rcases hx' with z | z
         · have z' := e.symm.trans z
           cases z'
           exact .inr rfl
         · have z' := e.symm.trans z
           cases z'
           exact .inl rfl
   rcases hl with hl | hl
   · have hm := PySem.mem_of_lookup hl
     obtain ⟨c, hc⟩ := I.ok.has x (S.free _ hm rfl).2
     exact ⟨c, (cf_has _ _ _ (comp_nf S hm)).trans (cl_has hm hc)⟩
   · exact Option.isSome_iff_exists.mp (PySem.W.cellsFrom_some _ _ _ (.inl hl))
 · have z : (scope.names.lookup x == some NameKind.cell) = true := z
   have z : scope.names.lookup x = some .cell := by simpa using z
   rcases cf_ok scope.names (s.heap.push { cls := .type "dict", data := .dict #[] }) (clOf scope.names X.env) (x := x) (c := c) (by rw [Heap.size_push]; exact e) with w | ⟨_, w, _⟩
   · exact absurd (PySem.mem_of_lookup z) (comp_nf S (cl_of w).1)
   · rw [Heap.size_push] at w
     exact Nat.le_of_succ_le w
 · rcases (hf b hb).2.2.2.1 with z | z
   · exact I.ok.noex b o e z
   · exact absurd (Nat.lt_of_lt_of_le (Heap.lt_size (I.ok.bs b o e).1) z) (Nat.lt_irrefl _)
 · obtain ⟨_, f1, f2, _⟩ := hf b hb
   rcases List.mem_cons.mp (I.stkSub b z) with q | q
   · exact f1 q
   · exact f2 q
theorem comp_start {h : Nat} {N' : List Str} {scope : Scope} {fp : List Addr} {h' : Heap} {tk : Nat} (I : Inv X pins σ H s) (S : ScopeOk h N' X.N scope X.env.scope) (hf : ∀ b ∈ fp, FpOk X pins H b) (hlt : ∀ b ∈ fp, b < s.heap.objs.size)
   (hn : h'.Ns s.heap.objs.size fun _ => none) (kp : ∀ b o, s.heap.get? b = some o → h'.get? b = some o) (hcs : ∀ x c, (cellsFrom (s.heap.objs.size + 1) scope.names (clOf scope.names X.env)).lookup x = some c → (clOf scope.names X.env).lookup x = some c ∨ ((x, NameKind.cell) ∈ scope.names ∧ s.heap.objs.size + 1 ≤ c ∧ h'.IsCell c none)) :
   Inv (compCx X scope N' s.heap.objs.size s H fp) [] (List.replicate h none ++ σ) H { s with heap := h', toks := tk } := by
 have ok := comp_ok I S hf hlt
 have cl := comp_cl I S
 refine ⟨ok, rfl, I.bare, Un.kept kp, ⟨_, hn, fun i x v e1 e2 e3 => ?_⟩, fun x c e => ?_, I.hok.fresh (Nat.le_refl _), fun x c e => (hcs x c e).elim (fun z => I.freeC x c (cl x c z)) fun z => I.hok.fresh (Nat.le_of_succ_le z.2.1), fun p hp => absurd (show p ∈ ([] : List (Addr × Obj)) from hp) (by simp), I.hok.kept kp, ?_⟩
 · have e1 : N'[i]? = some x := e1
   by_cases hi : i < h
   · rw [List.getElem?_append_left (by simpa using hi), List.getElem?_replicate, if_pos hi] at e2
     cases e2
   · obtain ⟨j, rfl⟩ : ∃ j, i = h + j := ⟨i - h, by omega⟩
     rw [List.getElem?_append_right (by simp), List.length_replicate, Nat.add_sub_cancel_left] at e2
     have e3 : Vis (relabel scope X.env) x := e3
     have er := lookup_relabel (env := X.env) (x := x) scope.names
     have hl : ∃ k, scope.names.lookup x = some k ∧ (k = .local ∨ k = .cell ∨ k = .free) ∧ (relabel scope X.env).names.lookup x = some (if (k == NameKind.free && X.env.scope.kind == .function && X.env.kindOf x == some .cell) then NameKind.cell else k) := by
       cases q : scope.names.lookup x with
       | none => rw [q] at er; rcases e3 with z | z | z <;> (have z' := er.symm.trans z; cases z')
       | some k =>
         rw [q, Option.map_some] at er
         refine ⟨k, rfl, ?_, er⟩
         by_cases hc : (k == NameKind.free && X.env.scope.kind == .function && X.env.kindOf x == some .cell) = true
         · simp only [Bool.and_eq_true, beq_iff_eq] at hc
           exact .inr (.inr hc.1.1)
         · rw [if_neg hc] at er
           rcases e3 with z | z | z <;> (have z' := er.symm.trans z; cases z'; simp)
     obtain ⟨k, hk, hkk, hre⟩ := hl
     obtain ⟨hN, rfl⟩ := S.out j x k e1 hk hkk
     have hm := PySem.mem_of_lookup hk
     have hfr := (S.free _ hm rfl).2
     obtain ⟨m, hnm, hlk⟩ := I.loc
     obtain ⟨u, ru, lk⟩ := hlk j x v hN e2 (by rcases hfr with z | z; exact .inr (.inl z); exact .inr (.inr z))
     refine ⟨u, ru, ?_⟩
     rcases lk with ⟨hloc, _⟩ | ⟨hkd, c, hc, hcell⟩
     · have hloc : X.env.scope.names.lookup x = some .local := hloc
       rcases hfr with z | z <;> (rw [hloc] at z; cases z)
     · refine .inr ⟨?_, c, (cf_has _ _ _ (comp_nf S hm)).trans (cl_has hm hc), ?_⟩
       · show (relabel scope X.env).names.lookup x = some .cell ∨ (relabel scope X.env).names.lookup x = some .free
         rw [hre]
         split
         · exact .inl rfl
         · exact .inr rfl
       · obtain ⟨o, ho, hd⟩ := hcell
         exact ⟨o, kp c o ho, hd⟩
 · rcases hcs x c e with z | z
   · obtain ⟨v, o, ho, hd⟩ := I.cell x c (cl x c z)
     exact ⟨v, o, kp c o ho, hd⟩
   · exact ⟨_, z.2.2⟩
 · show (List.replicate h none ++ σ).length = N'.length
   rw [List.length_append, List.length_replicate, S.len, I.len]
theorem comp_end {h : Nat} {N' : List Str} {scope : Scope} {fp : List Addr} {pins' : List (Addr × Obj)} {σ' : St} {H' : Hp} {s' : Shared} {h' : Heap} (I : Inv X pins σ H s) (S : ScopeOk h N' X.N scope X.env.scope) (hf : ∀ b ∈ fp, FpOk X pins H b)
   (J : Inv (compCx X scope N' s.heap.objs.size s H fp) pins' σ' H' s') (hs : Heap.SameBut s.heap.objs.size s'.heap h') : Inv X pins σ H' { s' with heap := h' } := by
 have ne : ∀ b o, s.heap.get? b = some o → b ≠ s.heap.objs.size := fun b o e => Nat.ne_of_lt (Heap.lt_size e)
 have u : Un (frs X.stack) fp H H' s.heap s'.heap := J.base
 have hC : H' s.heap.objs.size = none := J.free
 obtain ⟨m0, ⟨oC, _, _, hoC, _⟩, _⟩ := id J.loc
 refine I.call' (s' := { s' with heap := h' }) (ch := fp) J.os ⟨fun b o e n hb hx => (hs.2 b (ne b o e)).trans (u.keep b o e n hb hx), fun b o e n hb hx => ?_, u.free, fun b o e hx => ?_, u.tups, u.frzs, u.tbls⟩ (fun b ob e => ?_) J.bare fun b hb => ?_
 · obtain ⟨sl, z⟩ := u.slot b o e n hb hx
   exact ⟨sl, (hs.2 b (ne b o e)).trans z⟩
 · obtain ⟨o', z⟩ := u.there b o e hx
   exact ⟨o', (hs.2 b (ne b o e)).trans z⟩
 · refine (J.hok b ob e).stay (fun c w' hc q => (hs.2 c ?_).trans q) (fun _ q => q) fun _ _ q => q
   rintro rfl
   rcases hc with z | z
   · rw [← z, hC] at e; cases e
   · rw [hC] at z; cases z
 · obtain ⟨_, f1, _, f3, f4, f5⟩ := hf b hb
   exact ⟨f3, f1, f4, f5⟩
end
theorem pe_comp {X : Cx} {elt tg iter : Expr} {ifs : List Expr} {scope : Scope} {pos : Pos} {wi : TI} {g : TG} {tf : TT} {te : TE} {N' : List Str} (h : Nat) (S : ScopeOk h N' X.N scope X.env.scope) (hc : X.calm = true) (hi : PI X tg iter wi)
   (hg : ∀ C s H ex, PG (compCx X scope N' C s H ex) tg g) (ho : OwnG h g) (ht : ∀ C s H ex, PF (compCx X scope N' C s H ex) ifs tf) (he : ∀ C s H ex, PE (compCx X scope N' C s H ex) elt te)
   (hs : ∀ x, foldedSetIterable iter X.env x = pure x := by intro _; rfl) :
   PE X (.ListComp elt [⟨tg, iter, ifs, 0⟩] scope pos) (tComp h wi g tf te) := by
 intro pins s σ H Q I hq
 rw [eval_ListComp]
 refine wpAny_comprehension_free (use := none) rfl hs (closure_ok (env := X.env) fun p hp hk => I.ok.has p.1 (S.free p hp hk).2) S.kind S.loc ?_
 refine thn (hi pins s σ H _ I hq) fun v s1 h1 => thn h1 fun itv s2 h2 => ?_
 obtain ⟨it, fp, tn, J, H2, rfl, I2, T, st2, f2, hq⟩ := h2
 refine wpAny_newObj_type ?_ (by show 0 ≤ sizeLine; exact Nat.zero_le _)
 have hD : H2 s2.heap.objs.size = none := I2.hok.fresh (Nat.le_refl _)
 have I3 : Inv X pins σ (upd H2 s2.heap.objs.size (.lst [])) { s2 with heap := s2.heap.push { cls := .type "list", data := .seq ([] : List Value).toArray }, toks := s2.toks } := I2.lnew (t' := s2.toks) .nil (Nat.zero_le _)
 generalize hs3 : ({ s2 with heap := s2.heap.push { cls := .type "list", data := .seq ([] : List Value).toArray }, toks := s2.toks } : Shared) = s3 at I3
 have hs3' : ({ s2 with heap := s2.heap.push { cls := .type "list", data := .seq ([] : List Value).toArray } } : Shared) = s3 := hs3
 obtain ⟨W, ⟨m0, w0⟩, turn⟩ := hq s2.heap.objs.size hD
 have olt : ∀ b ∈ fp, b < s2.heap.objs.size := fun b hb => by
   obtain ⟨o, e, _⟩ := T.obj _ _ st2 b hb
   exact Heap.lt_size e
 have hsz : s3.heap.objs.size = s2.heap.objs.size + 1 := by rw [← hs3]; exact Heap.size_push ..
 have k23 : ∀ b o, s2.heap.get? b = some o → s3.heap.get? b = some o := fun b o e => by rw [← hs3]; exact Heap.get?_push_of_some _ e
 have f3 : ∀ b ∈ fp, FpOk X pins (upd H2 s2.heap.objs.size (.lst [])) b := fun b hb => ⟨by rw [upd_ne (Nat.ne_of_lt (olt b hb))]; exact (f2 b hb).1, (f2 b hb).2⟩
 have lt3 : ∀ b ∈ fp, b < s3.heap.objs.size := fun b hb => by rw [hsz]; exact Nat.lt_succ_of_lt (olt b hb)
 refine new_env_cl fun h4 hn4 k34 cs4 => ?_
 have I4 := comp_start (h' := h4) (tk := s3.toks) I3 S f3 lt3 hn4 k34 cs4
 have st4 : tn 0 h4 := T.keep _ _ _ st2 fun b hb o e => k34 b o (k23 b o e)
 generalize hX : compCx X scope N' s3.heap.objs.size s3 (upd H2 s2.heap.objs.size (.lst [])) fp = X' at I4
 have hA : X'.A = X.A := by rw [← hX]; rfl
 -- the iterator's objects, in the block
 have fpX : ∀ {H' : Hp} {pl : List (Addr × Obj)}, (∀ b ∈ fp, H' b = none) → pl = [] → ∀ b ∈ fp, FpOk X' pl H' b := fun {H' pl} hn0 hpl b hb => by
   subst hpl
   obtain ⟨q0, q1, q2, q3, q4, q5⟩ := f3 b hb
   subst hX
   refine ⟨hn0 b hb, Nat.ne_of_lt (lt3 b hb), fun z => ?_, .inl hb, fun x c e => (comp_cells I3 S x c e).elim (q4 x c) fun z w => Nat.lt_irrefl _ (Nat.lt_of_lt_of_le (lt3 b hb) (Nat.le_of_succ_le (w ▸ z.2))), fun p hp => absurd (show p ∈ ([] : List (Addr × Obj)) from hp) (by simp)⟩
   rcases List.mem_cons.mp (I3.stkSub b z) with z | z
   · exact q1 z
   · exact q2 z
 have hcX : X'.calm = true := by rw [← hX]; exact hc
 have hR : ∀ s' : Shared, (∃ (m : Nat) (i : Nat) (ys : List V) (H' : Hp), Inv X' [] (List.replicate h none ++ σ) H' s' ∧ tn i s'.heap ∧ (∀ b ∈ fp, H' b = none) ∧ W i m ys H') → True := fun _ _ => trivial
 have loop : ∀ (sL : Shared), (Inv X' [] (List.replicate h none ++ σ) (upd H2 s2.heap.objs.size (.lst [])) sL) → tn 0 sL.heap →
     codeAny (model X.prog X.w) X.A (.compLoop (.ListComp elt [⟨tg, iter, ifs, 0⟩] scope pos) 0 (.ref it) (.ref s2.heap.objs.size) X'.env)
       (compPost (model X.prog X.w) X.A X.xe none (EP X pins σ Q) (.ref s2.heap.objs.size) s3.heap.objs.size) sL := by
   intro sL IL stL
   refine compLoop_go (fun n s' => ∃ i ys H', Inv X' [] (List.replicate h none ++ σ) H' s' ∧ tn i s'.heap ∧ (∀ b ∈ fp, H' b = none) ∧ W i n ys H') ?_ m0 ⟨0, [], _, IL, stL, fun b hb => (f3 b hb).1, w0⟩
   rintro n s5 ⟨i, ys, H5, I5, st5, fr5, w5⟩
   obtain ⟨hDy, hh⟩ := turn i n ys H5 w5
   have eP : X'.prog = X.prog := by rw [← hX]; rfl
   have eW : X'.w = X.w := by rw [← hX]; rfl
   have eK : X'.K = X.K := by rw [← hX]; rfl
   have eE : X'.xe = fun _ _ => False := by rw [← hX]; rfl
   rcases hh with ⟨stop, qn⟩ | ⟨go, step⟩
   · have := T.done X' eP eW eK hcX i [] s5 _ H5 (fun _ _ => False) I5 (fpX fr5 rfl) st5 stop
     rw [hA] at this
     refine thn this fun r s6 ⟨hr, I6⟩ => ?_
     subst hr
     obtain ⟨m6, hm6, _⟩ := id I6.loc
     refine ⟨m6, ?_, fun h7 hs7 => ?_⟩
     · rw [← hX] at hm6; exact hm6
     · rw [← hX] at I6
       exact ⟨.ref s2.heap.objs.size, H5, comp_end I3 S f3 I6 hs7, rfl, qn⟩
   · have := T.item X' eP eW eK hcX i [] s5 _ H5 (fun _ _ => False) I5 (fpX fr5 rfl) st5 go
     rw [hA] at this
     refine thn this fun r s6 ⟨u, hr, h6⟩ => ?_
     subst hr
     refine thn h6 fun _ s7 ⟨x, H7, I7, r7, y7, st7, fr7⟩ => ?_
     have I7' := I7.pinned (fpX fr7 rfl) (T.obj _ _ st7)
     have back : ∀ {σ' : St} {H' : Hp} {s' : Shared}, Inv X' ([] ++ pinsAt fp s7.heap) σ' H' s' → σ'.length = (List.replicate h none ++ σ : St).length → σ'.drop h = (List.replicate h none ++ σ : St).drop h →
         Inv X' [] (List.replicate h none ++ σ) H' s' ∧ tn (i + 1) s'.heap ∧ ∀ b ∈ fp, H' b = none := by
       intro σ' H' s' I' hl hd
       refine ⟨I'.unpinned.weak hl.symm fun j v e => ?_, T.keep _ _ _ st7 fun b hb o e => ?_, fun b hb => ?_⟩
       · by_cases hj : j < h
         · rw [List.getElem?_append_left (by simpa using hj), List.getElem?_replicate, if_pos hj] at e
           cases e
         · have e1 : (σ'.drop h)[j - h]? = σ'[j]? := by rw [List.getElem?_drop]; congr 1; omega
           have e2 : ((List.replicate h none ++ σ : St).drop h)[j - h]? = (List.replicate h none ++ σ : St)[j]? := by rw [List.getElem?_drop]; congr 1; omega
           rw [← e1, hd, e2]; exact e
       · exact (I'.pin (b, o) (List.mem_append_right _ (List.mem_append_right _ (mem_pinsAt hb e)))).1
       · obtain ⟨o, e, _⟩ := T.obj _ _ st7 b hb
         exact (I'.pin (b, o) (List.mem_append_right _ (List.mem_append_right _ (mem_pinsAt hb e)))).2.1
     have hg' := hg s3.heap.objs.size s3 (upd H2 s2.heap.objs.size (.lst [])) fp
     have ht' := ht s3.heap.objs.size s3 (upd H2 s2.heap.objs.size (.lst [])) fp
     have he' := he s3.heap.objs.size s3 (upd H2 s2.heap.objs.size (.lst [])) fp
     rw [hX] at hg' ht' he'
     have hl0 : h ≤ (List.replicate h none ++ σ : St).length := by simp
     have a1 := hg' _ s7 _ H7 x u _ I7' r7 (ho x _ H7 _ hl0 (step x H7 y7))
     rw [hA, eP, eW, eE] at a1
     refine thn a1 fun _ s8 ⟨σ8, H8, I8, q8, l8, d8⟩ => ?_
     have a2 := ht' _ s8 σ8 H8 _ I8 q8
     rw [hA, eP, eW, eE] at a2
     refine thn a2 fun c s9 ⟨H9, I9, q9⟩ => ?_
     cases c with
     | false =>
       obtain ⟨m', hm', w'⟩ := q9
       obtain ⟨b1, b2, b3⟩ := back I9 l8 d8
       exact ⟨m', hm', i + 1, ys, H9, b1, b2, b3, w'⟩
     | true =>
       have a3 := he' _ s9 σ8 H9 _ I9 q9
       rw [hA, eP, eW, eE] at a3
       refine thn a3 fun yv s10 ⟨y, H10, I10, r10, hD10, hz10, m', hm', w'⟩ => ?_
       have a4 := mt_append (X := X') _ s10 σ8 H10 (.ref s2.heap.objs.size) [y] (.ref s2.heap.objs.size) [yv] (fun _ Hz => Hz = upd H10 s2.heap.objs.size (.lst (ys ++ [y]))) I10 rfl (.cons r10 .nil) ⟨_, ys, y, rfl, rfl, hD10, hz10, rfl⟩
       rw [hA, eP, eW, eE] at a4
       refine thn a4 fun _ s11 ⟨_, H11, I11, _, e11⟩ => ?_
       subst e11
       obtain ⟨b1, b2, b3⟩ := back I11 l8 d8
       exact ⟨m', hm', i + 1, ys ++ [y], _, b1, b2, b3, w'⟩
 have fin := codeAny_compStart_list (prog := X.prog) (w := X.w) (A := X.A) (R := compPost (model X.prog X.w) X.A X.xe none (EP X pins σ Q) (.ref s2.heap.objs.size) s3.heap.objs.size) (elt := elt) (target := tg) (iter := iter) (ifs := ifs) (rest := []) (scope := scope) (pos := pos) (it := .ref it) (acc := .ref s2.heap.objs.size) (env := X'.env)
   (loop _ I4 st4) (T.self _ 0 _ _ _ st4 (loop _ I4 st4))
 have hE : X'.env = compEnvC scope (cellsFrom (s3.heap.objs.size + 1) scope.names (clOf scope.names X.env)) s3.heap.objs.size X.env := by rw [← hX]; rfl
 rw [hE] at fin
 exact fin
theorem ps_setComp {X : Cx} {elt tg iter : Expr} {ifs : List Expr} {scope : Scope} {pos py spos : Pos} {wi : TI} {g : TG} {tf : TT} {te : TE} {N' : List Str} {n0 : Nat} {x0 : Str} (hN0 : X.N.Nodup) (hi0 : X.N[n0]? = some x0) (hx0 : X.env.scope.names.lookup x0 = some .local) (hsw : swapsWith (.ListComp elt [⟨tg, iter, ifs, 0⟩] scope pos) (some (.Name x0 py)) spos.line X.env = pure true) (h : Nat) (S : ScopeOk h N' X.N scope X.env.scope) (hc : X.calm = true) (hi : PI X tg iter wi)
   (hg : ∀ C s H ex, PG (compCx X scope N' C s H ex) tg g) (ho : OwnG h g) (ht : ∀ C s H ex, PF (compCx X scope N' C s H ex) ifs tf) (he : ∀ C s H ex, PE (compCx X scope N' C s H ex) elt te)
   (hs : ∀ x, foldedSetIterable iter X.env x = pure x := by intro _; rfl) :
   PS X (.Assign [.Name x0 py] (.ListComp elt [⟨tg, iter, ifs, 0⟩] scope pos) spos) (tAsg (tComp h wi g tf te) (gName n0)) := by
 intro pins s σ H DD I hq
 rw [exec_Assign_Name_used _ _ _ _ hsw]
 refine wpAny_bind (wpAny_standAt (wpAny_bind ?_))
 show wpAny _ X.A (do let _ ← comprehension (.ListComp elt [⟨tg, iter, ifs, 0⟩] scope pos) scope X.env _ (newList []) false (eval iter X.env) (some (assign (.Name x0 py) X.env))) _ _ s
 refine wpAny_bind (wpAny_mono (wpAny_comprehension_free (use := some (assign (.Name x0 py) X.env)) (Q := fun _ s' => SP X pins DD .next s') rfl hs (closure_ok (env := X.env) fun p hp hk => I.ok.has p.1 (S.free p hp hk).2) S.kind S.loc ?_) (fun _ s' hq => wpAny_pure (wpAny_pure hq)) fun _ _ e => e)
 refine thn (hi pins s σ H _ I hq) fun v s1 h1 => thn h1 fun itv s2 h2 => ?_
 obtain ⟨it, fp, tn, J, H2, rfl, I2, T, st2, f2, hq⟩ := h2
 refine wpAny_newObj_type ?_ (by show 0 ≤ sizeLine; exact Nat.zero_le _)
 have hD : H2 s2.heap.objs.size = none := I2.hok.fresh (Nat.le_refl _)
 have I3 : Inv X pins σ (upd H2 s2.heap.objs.size (.lst [])) { s2 with heap := s2.heap.push { cls := .type "list", data := .seq ([] : List Value).toArray }, toks := s2.toks } := I2.lnew (t' := s2.toks) .nil (Nat.zero_le _)
 generalize hs3 : ({ s2 with heap := s2.heap.push { cls := .type "list", data := .seq ([] : List Value).toArray }, toks := s2.toks } : Shared) = s3 at I3
 have hs3' : ({ s2 with heap := s2.heap.push { cls := .type "list", data := .seq ([] : List Value).toArray } } : Shared) = s3 := hs3
 obtain ⟨W, ⟨m0, w0⟩, turn⟩ := hq s2.heap.objs.size hD
 have olt : ∀ b ∈ fp, b < s2.heap.objs.size := fun b hb => by
   obtain ⟨o, e, _⟩ := T.obj _ _ st2 b hb
   exact Heap.lt_size e
 have hsz : s3.heap.objs.size = s2.heap.objs.size + 1 := by rw [← hs3]; exact Heap.size_push ..
 have k23 : ∀ b o, s2.heap.get? b = some o → s3.heap.get? b = some o := fun b o e => by rw [← hs3]; exact Heap.get?_push_of_some _ e
 have f3 : ∀ b ∈ fp, FpOk X pins (upd H2 s2.heap.objs.size (.lst [])) b := fun b hb => ⟨by rw [upd_ne (Nat.ne_of_lt (olt b hb))]; exact (f2 b hb).1, (f2 b hb).2⟩
 have lt3 : ∀ b ∈ fp, b < s3.heap.objs.size := fun b hb => by rw [hsz]; exact Nat.lt_succ_of_lt (olt b hb)
 refine new_env_cl fun h4 hn4 k34 cs4 => ?_
 have I4 := comp_start (h' := h4) (tk := s3.toks) I3 S f3 lt3 hn4 k34 cs4
 have st4 : tn 0 h4 := T.keep _ _ _ st2 fun b hb o e => k34 b o (k23 b o e)
 generalize hX : compCx X scope N' s3.heap.objs.size s3 (upd H2 s2.heap.objs.size (.lst [])) fp = X' at I4
 have hA : X'.A = X.A := by rw [← hX]; rfl
 -- the iterator's objects, in the block
 have fpX : ∀ {H' : Hp} {pl : List (Addr × Obj)}, (∀ b ∈ fp, H' b = none) → pl = [] → ∀ b ∈ fp, FpOk X' pl H' b := fun {H' pl} hn0 hpl b hb => by
   subst hpl
   obtain ⟨q0, q1, q2, q3, q4, q5⟩ := f3 b hb
   subst hX
   refine ⟨hn0 b hb, Nat.ne_of_lt (lt3 b hb), fun z => ?_, .inl hb, fun x c e => (comp_cells I3 S x c e).elim (q4 x c) fun z w => Nat.lt_irrefl _ (Nat.lt_of_lt_of_le (lt3 b hb) (Nat.le_of_succ_le (w ▸ z.2))), fun p hp => absurd (show p ∈ ([] : List (Addr × Obj)) from hp) (by simp)⟩
   rcases List.mem_cons.mp (I3.stkSub b z) with z | z
   · exact q1 z
   · exact q2 z
 have hcX : X'.calm = true := by rw [← hX]; exact hc
 have hR : ∀ s' : Shared, (∃ (m : Nat) (i : Nat) (ys : List V) (H' : Hp), Inv X' [] (List.replicate h none ++ σ) H' s' ∧ tn i s'.heap ∧ (∀ b ∈ fp, H' b = none) ∧ W i m ys H') → True := fun _ _ => trivial
 have loop : ∀ (sL : Shared), (Inv X' [] (List.replicate h none ++ σ) (upd H2 s2.heap.objs.size (.lst [])) sL) → tn 0 sL.heap →
     codeAny (model X.prog X.w) X.A (.compLoop (.ListComp elt [⟨tg, iter, ifs, 0⟩] scope pos) 0 (.ref it) (.ref s2.heap.objs.size) X'.env)
       (compPost (model X.prog X.w) X.A X.xe (some (assign (.Name x0 py) X.env)) (fun _ s' => SP X pins DD .next s') (.ref s2.heap.objs.size) s3.heap.objs.size) sL := by
   intro sL IL stL
   refine compLoop_go (fun n s' => ∃ i ys H', Inv X' [] (List.replicate h none ++ σ) H' s' ∧ tn i s'.heap ∧ (∀ b ∈ fp, H' b = none) ∧ W i n ys H') ?_ m0 ⟨0, [], _, IL, stL, fun b hb => (f3 b hb).1, w0⟩
   rintro n s5 ⟨i, ys, H5, I5, st5, fr5, w5⟩
   obtain ⟨hDy, hh⟩ := turn i n ys H5 w5
   have eP : X'.prog = X.prog := by rw [← hX]; rfl
   have eW : X'.w = X.w := by rw [← hX]; rfl
   have eK : X'.K = X.K := by rw [← hX]; rfl
   have eE : X'.xe = fun _ _ => False := by rw [← hX]; rfl
   rcases hh with ⟨stop, qn⟩ | ⟨go, step⟩
   · have := T.done X' eP eW eK hcX i [] s5 _ H5 (fun _ _ => False) I5 (fpX fr5 rfl) st5 stop
     rw [hA] at this
     refine thn this fun r s6 ⟨hr, I6⟩ => ?_
     subst hr
     obtain ⟨m6, hm6, _⟩ := id I6.loc
     have hC6 : H5 s3.heap.objs.size = none := by rw [← hX] at I6; exact I6.free
     have hm6 : s6.heap.Ns s3.heap.objs.size m6 := by rw [← hX] at hm6; exact hm6
     have J6 : Inv X pins σ H5 s6 := by rw [← hX] at I6; exact comp_end I3 S f3 I6 (Heap.SameBut.refl ..)
     have neL : s3.heap.objs.size ≠ X.env.locals := Nat.ne_of_gt I3.lt
     have neC : ∀ x c, X.env.cells.lookup x = some c → c ≠ s3.heap.objs.size := fun x c e => by
       obtain ⟨v, z⟩ := I3.cell x c e
       exact Nat.ne_of_lt z.lt
     show wpAny (model X.prog X.w) X.A (assign (.Name x0 py) X.env (.ref s2.heap.objs.size)) _ _ s6
     refine wpAny_assign_Name (store_ok2 (v := .ref s2.heap.objs.size) J6 hN0 hi0 (.inl hx0) rfl (fun s7 I7 ⟨a, hsb, ha⟩ => ?_) (.inr hx0))
     have hac : s3.heap.objs.size ≠ a := by
       rcases ha with rfl | ha
       · exact neL
       · exact Ne.symm (neC _ _ ha)
     refine ⟨m6, hm6.sameBut hsb hac, fun h8 hs8 => ⟨_, H5, I7.turned (t' := s7.toks) (it := s3.heap.objs.size) (fun b o hb e => (hs8.2 b hb).trans e) hC6 neL (.inr I3.sz) neC (fun p hp => ?_), qn⟩⟩
     exact Nat.ne_of_lt (Heap.lt_size (I3.pin p hp).1)
   · have := T.item X' eP eW eK hcX i [] s5 _ H5 (fun _ _ => False) I5 (fpX fr5 rfl) st5 go
     rw [hA] at this
     refine thn this fun r s6 ⟨u, hr, h6⟩ => ?_
     subst hr
     refine thn h6 fun _ s7 ⟨x, H7, I7, r7, y7, st7, fr7⟩ => ?_
     have I7' := I7.pinned (fpX fr7 rfl) (T.obj _ _ st7)
     have back : ∀ {σ' : St} {H' : Hp} {s' : Shared}, Inv X' ([] ++ pinsAt fp s7.heap) σ' H' s' → σ'.length = (List.replicate h none ++ σ : St).length → σ'.drop h = (List.replicate h none ++ σ : St).drop h →
         Inv X' [] (List.replicate h none ++ σ) H' s' ∧ tn (i + 1) s'.heap ∧ ∀ b ∈ fp, H' b = none := by
       intro σ' H' s' I' hl hd
       refine ⟨I'.unpinned.weak hl.symm fun j v e => ?_, T.keep _ _ _ st7 fun b hb o e => ?_, fun b hb => ?_⟩
       · by_cases hj : j < h
         · rw [List.getElem?_append_left (by simpa using hj), List.getElem?_replicate, if_pos hj] at e
           cases e
         · have e1 : (σ'.drop h)[j - h]? = σ'[j]? := by rw [List.getElem?_drop]; congr 1; omega
           have e2 : ((List.replicate h none ++ σ : St).drop h)[j - h]? = (List.replicate h none ++ σ : St)[j]? := by rw [List.getElem?_drop]; congr 1; omega
           rw [← e1, hd, e2]; exact e
       · exact (I'.pin (b, o) (List.mem_append_right _ (List.mem_append_right _ (mem_pinsAt hb e)))).1
       · obtain ⟨o, e, _⟩ := T.obj _ _ st7 b hb
         exact (I'.pin (b, o) (List.mem_append_right _ (List.mem_append_right _ (mem_pinsAt hb e)))).2.1
     have hg' := hg s3.heap.objs.size s3 (upd H2 s2.heap.objs.size (.lst [])) fp
     have ht' := ht s3.heap.objs.size s3 (upd H2 s2.heap.objs.size (.lst [])) fp
     have he' := he s3.heap.objs.size s3 (upd H2 s2.heap.objs.size (.lst [])) fp
     rw [hX] at hg' ht' he'
     have hl0 : h ≤ (List.replicate h none ++ σ : St).length := by simp
     have a1 := hg' _ s7 _ H7 x u _ I7' r7 (ho x _ H7 _ hl0 (step x H7 y7))
     rw [hA, eP, eW, eE] at a1
     refine thn a1 fun _ s8 ⟨σ8, H8, I8, q8, l8, d8⟩ => ?_
     have a2 := ht' _ s8 σ8 H8 _ I8 q8
     rw [hA, eP, eW, eE] at a2
     refine thn a2 fun c s9 ⟨H9, I9, q9⟩ => ?_
     cases c with
     | false =>
       obtain ⟨m', hm', w'⟩ := q9
       obtain ⟨b1, b2, b3⟩ := back I9 l8 d8
       exact ⟨m', hm', i + 1, ys, H9, b1, b2, b3, w'⟩
     | true =>
       have a3 := he' _ s9 σ8 H9 _ I9 q9
       rw [hA, eP, eW, eE] at a3
       refine thn a3 fun yv s10 ⟨y, H10, I10, r10, hD10, hz10, m', hm', w'⟩ => ?_
       have a4 := mt_append (X := X') _ s10 σ8 H10 (.ref s2.heap.objs.size) [y] (.ref s2.heap.objs.size) [yv] (fun _ Hz => Hz = upd H10 s2.heap.objs.size (.lst (ys ++ [y]))) I10 rfl (.cons r10 .nil) ⟨_, ys, y, rfl, rfl, hD10, hz10, rfl⟩
       rw [hA, eP, eW, eE] at a4
       refine thn a4 fun _ s11 ⟨_, H11, I11, _, e11⟩ => ?_
       subst e11
       obtain ⟨b1, b2, b3⟩ := back I11 l8 d8
       exact ⟨m', hm', i + 1, ys ++ [y], _, b1, b2, b3, w'⟩
 have fin := codeAny_compStart_list (prog := X.prog) (w := X.w) (A := X.A) (R := compPost (model X.prog X.w) X.A X.xe (some (assign (.Name x0 py) X.env)) (fun _ s' => SP X pins DD .next s') (.ref s2.heap.objs.size) s3.heap.objs.size) (elt := elt) (target := tg) (iter := iter) (ifs := ifs) (rest := []) (scope := scope) (pos := pos) (it := .ref it) (acc := .ref s2.heap.objs.size) (env := X'.env)
   (loop _ I4 st4) (T.self _ 0 _ _ _ st4 (loop _ I4 st4))
 have hE : X'.env = compEnvC scope (cellsFrom (s3.heap.objs.size + 1) scope.names (clOf scope.names X.env)) s3.heap.objs.size X.env := by rw [← hX]; rfl
 rw [hE] at fin
 exact fin
end L3
namespace L3
open PySem PySem.Spec
open PyProof.Rows hiding St
open L2
structure Fly (h : Heap) (e : Addr) (cls : Value) (dx : Option Addr) (T : Option Addr) : Prop where
 obj : ∃ oe vs, h.get? e = some oe ∧ oe.cls = cls ∧ oe.dict = dx ∧ oe.data = .fields vs ∧ 1 < vs.size ∧ vs[1]? = some (T.elim .none .ref)
 note : ∀ t, T = some t → t ≠ e ∧ ∃ oT ts, h.get? t = some oT ∧ oT.data = .fields ts ∧ ts[3]? = some .none
structure Flew (fs : List Addr) (e : Addr) (T : Option Addr) (h h' : Heap) : Prop where
 keep : ∀ b o, b ≠ e → T ≠ some b → b ∉ fs → h.get? b = some o → h'.get? b = some o
 slot : ∀ b o, b ∈ fs → h.get? b = some o → ∃ sl, h'.get? b = some { o with slots := sl }
section
variable {M : Model} {A : Around} {E : Value → Shared → Prop} {s : Shared} {base : Heap} {env : Env} {outer : List Env} {L e : Addr}
theorem dict_mapFields (o : Obj) (f) : (o.mapFields f).dict = o.dict := by
 obtain ⟨c, d, dt, sl⟩ := o
 cases dt <;> rfl
theorem fly_entry {cls : Value} {dx : Option Addr} {head : Value} {hn : Bool} {Q : Unit → Shared → Prop} {oe : Obj} {vs : Array Value} (hfr : A.frames = some (env :: outer)) (hl : s.heap.FunFrames base (env :: outer)) (hf : env.frame = some L)
   (he : s.heap.get? e = some oe) (hc : oe.cls = cls) (hx : oe.dict = dx) (hd : oe.data = .fields vs) (hz : 1 < vs.size)
   (q : ∀ h' t, Fly h' e cls dx (some t) → s.heap.objs.size ≤ t → Flew (frs (env :: outer)) e none s.heap h' → h'.FunFrames base (env :: outer) → Q () { s with heap := h' }) :
   wpAny M A (do let a ← frameOf env; let pl ← entryPlaceOf L hn; let b ← EntryCells.newEntry head a .none (rawInt L) .none pl; setField (.ref e) 1 b) (fun _ s' => wpAny M A (setFlight (.ref e) none) Q E s') E s := by
 have ne : e ∉ frs (env :: outer) := fun m => by
   obtain ⟨_, o, ho, nf⟩ := hl.mem m
   rw [he] at ho
   cases ho
   exact nf vs hd
 refine wpAny_bind (wpAny_frameOf_fun hfr hl hf fun h1 s1 => ?_)
 refine wpAny_bind (wpAny_entryPlaceOf fun pl hp => ?_)
 unfold EntryCells.newEntry newFields
 refine wpAny_bind (wpAny_newObj_type ?_ (hp.sizeOk5 _ _ _ _ _))
 generalize ho : ({ cls := .type "traceback", dict := none, data := .fields ([head, .ref L, .none, rawInt L, .none] ++ (if pl.isEmpty then List.replicate 6 Value.none else pl)).toArray } : Obj) = nt
 have z3 : 3 < ([head, .ref L, .none, rawInt L, .none] ++ (if pl.isEmpty then List.replicate 6 Value.none else pl)).toArray.size := by simp only [List.size_toArray, List.length_append, List.length_cons] <;> omega
 generalize hts : ([head, .ref L, .none, rawInt L, .none] ++ (if pl.isEmpty then List.replicate 6 Value.none else pl)).toArray = ts at ho z3
 have dn : nt.data = .fields ts := by rw [← ho]
 have fn : nt.isFreed = false := Obj.isFreed_of_fields dn
 have e1 : h1.get? e = some oe := (s1.2.1 e ne).trans he
 have e2 := Heap.get?_push_of_some nt e1
 refine wpAny_setField e2 hd hz ?_
 have te : h1.objs.size ≠ e := Nat.ne_of_gt (Heap.lt_size e1)
 have d3 := Obj.data_mapFields hd (·.setIfInBounds 1 (Value.ref h1.objs.size))
 have e3 := Heap.get?_update_self (Obj.mapFields (·.setIfInBounds 1 (Value.ref h1.objs.size))) e2 (Obj.isFreed_of_fields d3)
 have t3 := (Heap.get?_update_other (h1.push nt) (Obj.mapFields (·.setIfInBounds 1 (Value.ref h1.objs.size))) (Ne.symm te)).trans (Heap.get?_push_size h1 fn)
 unfold setFlight
 refine wpAny_bind (wpAny_field e3 d3 (x := .ref h1.objs.size) (by simp [hz]) ?_)
 rw [if_pos (by simp)]
 have d4 := Obj.data_mapFields dn (·.setIfInBounds 3 ((none : Option Addr).elim Value.none fun f => rawInt f))
 have t4 := Heap.get?_update_self (Obj.mapFields (·.setIfInBounds 3 ((none : Option Addr).elim Value.none fun f => rawInt f))) t3 (Obj.isFreed_of_fields d4)
 have kp : ∀ b o, b ≠ e → h1.get? b = some o → (((h1.push nt).update e (Obj.mapFields (·.setIfInBounds 1 (Value.ref h1.objs.size)))).update h1.objs.size (Obj.mapFields (·.setIfInBounds 3 ((none : Option Addr).elim Value.none fun f => rawInt f)))).get? b = some o := fun b o nb hb => by
   rw [Heap.get?_update_other _ _ (Nat.ne_of_gt (Heap.lt_size hb)), Heap.get?_update_other _ _ (Ne.symm nb)]
   exact Heap.get?_push_of_some nt hb
 refine wpAny_setField t3 dn z3 (q _ h1.objs.size ⟨⟨_, _, (Heap.get?_update_other _ _ te).trans e3, (Obj.cls_mapFields _ _).trans hc, (dict_mapFields _ _).trans hx, d3, by simpa using hz, by simp [hz]⟩, fun t et => ?_⟩ ?_ ⟨fun b o nb _ nf hb => ?_, fun b o mb hb => ?_⟩ ?_)
 · cases et
   exact ⟨te, _, _, t4, d4, by simp [z3]⟩
 · exact Nat.le_of_eq s1.1.symm
 · exact kp b o nb ((s1.2.1 b nf).trans hb)
 · obtain ⟨sl, h2⟩ := s1.2.2 b o hb
   exact ⟨sl, kp b _ (fun z => ne (z ▸ mb)) h2⟩
 · refine hl.of_keeps fun b o hb nf => ?_
   obtain ⟨sl, h2⟩ := s1.2.2 b o hb
   exact ⟨_, kp b _ (fun z => by rw [z, he] at hb; cases hb; exact nf vs hd) h2, rfl⟩
theorem fly_note {cls : Value} {dx T : Option Addr} {Q : Unit → Shared → Prop} (hfr : A.frames = some (env :: outer)) (hl : s.heap.FunFrames base (env :: outer)) (hf : env.frame = some L) (hb : ∀ t, T = some t → base.get? t = none)
   (F : Fly s.heap e cls dx T) (q : ∀ h' t, Fly h' e cls dx (some t) → s.heap.objs.size ≤ t → Flew (frs (env :: outer)) e T s.heap h' → h'.FunFrames base (env :: outer) → Q () { s with heap := h' }) :
   wpAny M A (noteFrame (.ref e) env) (fun _ s' => wpAny M A (setFlight (.ref e) none) Q E s') E s := by
 obtain ⟨⟨oe, vs, he, hc, hx, hd, hz, h1⟩, nt⟩ := F
 unfold noteFrame
 simp only [hf]
 refine wpAny_bind (wpAny_field he hd h1 ?_)
 cases T with
 | none =>
   rw [if_neg (by decide)]
   exact fly_entry hfr hl hf he hc hx hd hz q
 | some t =>
   obtain ⟨tne, oT, ts, ht, dt, t3⟩ := nt t rfl
   have z3 : 3 < ts.size := (Array.getElem?_eq_some_iff.mp t3).1
   rw [if_pos (show ((some t).elim Value.none Value.ref != Value.none) = true by simp)]
   refine wpAny_bind (wpAny_field ht dt t3 ?_)
   rw [if_neg (by simp [rawInt])]
   refine wpAny_bind (wpAny_setField ht dt z3 ?_)
   have ot : ∀ b, b ≠ t → (s.heap.update t (Obj.mapFields (·.setIfInBounds 3 Value.none))).get? b = s.heap.get? b := fun b nb => Heap.get?_update_other _ _ (Ne.symm nb)
   have rcd : ∀ b o, s.heap.get? b = some o → (∀ vs, o.data ≠ .fields vs) → b ≠ t := fun b o gb nf z => by
     rw [z, ht] at gb
     cases gb
     exact nf ts dt
   have nfr : t ∉ frs (env :: outer) := fun m => by
     obtain ⟨_, o, go, nf⟩ := hl.mem m
     rw [ht] at go
     cases go
     exact nf ts dt
   refine fly_entry (s := { s with heap := s.heap.update t (Obj.mapFields (·.setIfInBounds 3 Value.none)) }) hfr (hl.of_keeps fun b o gb nf => ⟨o, (ot b (rcd b o gb nf)).trans gb, rfl⟩) hf ((ot e (Ne.symm tne)).trans he) hc hx hd hz fun h' u F' nu W fr => ?_
   exact q h' u F' (by rw [← Heap.size_after_update s.heap t]; exact nu) ⟨fun b o nb nT nf gb => W.keep b o nb (by simp) nf ((ot b fun z => nT (by rw [z])).trans gb), fun b o mb gb => W.slot b o mb ((ot b fun z => nfr (z ▸ mb)).trans gb)⟩ fr
theorem fly_leave {cls : Value} {dx T : Option Addr} {Q : Unit → Shared → Prop} (hfr : A.frames = some (env :: outer)) (hl : s.heap.FunFrames base (env :: outer)) (hf : env.frame = some L) (hb : ∀ t, T = some t → base.get? t = none)
   (F : Fly s.heap e cls dx T) (q : ∀ h' t, Fly h' e cls dx (some t) → s.heap.objs.size ≤ t → Flew (frs (env :: outer)) e T s.heap h' → h'.FunFrames base (env :: outer) → Q () { s with heap := h' }) :
   wpAny M A (leaving env (.ref e)) Q E s := wpAny_bind (fly_note hfr hl hf hb F q)
end
end L3
namespace L3
open PySem PySem.Spec
open PyProof.Rows hiding St
open L2
section
variable {P : Program} {w : World} {H : Hp} {h h' : Heap} {fs : List Addr} {e : Addr} {T : Option Addr}
theorem Flew.hok (W : Flew fs e T h h') (hok : HOk P w H h) (he : H e = none) (hT : ∀ t, T = some t → H t = none) (hf : ∀ b ∈ fs, H b = none) : HOk P w H h' := fun a o q =>
 (hok a o q).stay (fun b u hb g => by
   have nb : H b ≠ none := by
     rcases hb with z | z
     · rw [z, q]; simp
     · rw [z]; simp
   exact W.keep b u (fun z => nb (by rw [z]; exact he)) (fun z => nb (hT b z)) (fun z => nb (hf b z)) g) (fun _ z => z) fun _ _ z => z
end
def CX1 (P : Program) (w : World) : CXT := fun outer H s E e s' => ∃ (a C dx : Addr) (T : Option Addr) (H' : Hp), e = .ref a ∧ s'.os = s.os ∧ AllBare s'.gens ∧ Un (frs outer) [] H H' s.heap s'.heap ∧ HOk P w H' s'.heap ∧
 Fly s'.heap a (.ref C) (some dx) T ∧ H' a = none ∧ s.heap.objs.size ≤ a ∧ (∀ t, T = some t → H' t = none ∧ s.heap.objs.size ≤ t) ∧ E (.ref C) (some dx) H'
structure Bdy (P : Program) (w : World) (X : Cx) (E : XK) : Prop where
 prog : X.prog = P
 wld : X.w = w
 stk : X.stack = X.env :: X.outer
 fr : X.env.frame = some X.env.locals
 ex : X.ex = []
 xe : X.xe = fun e s' => wpAny (model P w) X.A (leaving X.env e) (fun _ s'' => CX1 P w X.outer X.H₀ X.s₀ E e s'') (fun e' s'' => CX1 P w X.outer X.H₀ X.s₀ E e' s'') s'
section
variable {P : Program} {w : World} {X : Cx} {E : XK} {pins : List (Addr × Obj)} {σ : St} {H : Hp} {s : Shared} {a C dx : Addr} {T : Option Addr}
theorem Bdy.out (B : Bdy P w X E) (I : Inv X pins σ H s) (F : Fly s.heap a (.ref C) (some dx) T) (na : H a = none) (fa : X.s₀.heap.objs.size ≤ a) (hT : ∀ t, T = some t → H t = none ∧ X.s₀.heap.objs.size ≤ t) (q : E (.ref C) (some dx) H) : X.xe (.ref a) s := by
 have fr0 : X.A.frames = some (X.env :: X.outer) := by rw [I.ok.frames, B.stk]
 have st0 : s.heap.FunFrames X.base (X.env :: X.outer) := by have := I.stack; rwa [B.stk] at this
 have bT : ∀ t, T = some t → X.base.get? t = none := fun t z => by
   cases g : X.base.get? t with
   | none => rfl
   | some o => exact absurd (Heap.lt_size (I.ok.bs t o g).1) (Nat.not_lt.mpr (hT t z).2)
 rw [B.xe]
 refine fly_leave fr0 st0 B.fr bT F fun h' t F' nt W fr => ?_
 have frn : ∀ b ∈ frs (X.env :: X.outer), H b = none := by have := I.stkFree; rwa [B.stk] at this
 have hok := B.prog ▸ B.wld ▸ W.hok I.hok na (fun t z => (hT t z).1) frn
 have bu := I.base
 rw [B.ex] at bu
 have s0 : ∀ b o, X.s₀.heap.get? b = some o → b ≠ a ∧ T ≠ some b ∧ b ≠ X.env.locals := fun b o g => by
   refine ⟨fun z => ?_, fun z => ?_, fun z => ?_⟩
   · rw [z] at g; exact absurd (Heap.lt_size g) (Nat.not_lt.mpr fa)
   · exact absurd (Heap.lt_size g) (Nat.not_lt.mpr (hT b z).2)
   · rw [z] at g; exact absurd (Nat.lt_of_lt_of_le (Heap.lt_size g) I.ok.above) (Nat.lt_irrefl _)
 have nf : ∀ b, b ≠ X.env.locals → b ∉ X.fs → b ∉ frs (X.env :: X.outer) := fun b h1 h2 m => by
   have m2 : b ∈ X.env.locals :: X.fs := by
     have : frs (X.env :: X.outer) = X.env.locals :: X.fs := by
       show List.filterMap _ (X.env :: X.outer) = _
       rw [List.filterMap_cons, B.fr]
       rfl
     rwa [this] at m
   rcases List.mem_cons.mp m2 with z | z
   · exact h1 z
   · exact h2 z
 have mf : ∀ b, b ∈ X.fs → b ∈ frs (X.env :: X.outer) := fun b m => by
   show b ∈ List.filterMap _ (X.env :: X.outer)
   rw [List.filterMap_cons, B.fr]
   exact List.mem_cons_of_mem _ m
 have un : Un (frs X.outer) [] X.H₀ H X.s₀.heap h' := {
   keep := fun b o g n hb hx => let ⟨z1, z2, z3⟩ := s0 b o g; W.keep b o z1 z2 (nf b z3 hb) (bu.keep b o g n hb hx)
   slot := fun b o g n hb hx => by
     obtain ⟨sl, g1⟩ := bu.slot b o g n hb hx
     obtain ⟨sl2, g2⟩ := W.slot b _ (mf b hb) g1
     exact ⟨sl2, g2⟩
   free := bu.free
   there := fun b o g hx => by
     obtain ⟨o1, g1⟩ := bu.there b o g hx
     obtain ⟨z1, z2, z3⟩ := s0 b o g
     by_cases hb : b ∈ X.fs
     · obtain ⟨sl2, g2⟩ := W.slot b _ (mf b hb) g1
       exact ⟨_, g2⟩
     · exact ⟨o1, W.keep b o1 z1 z2 (nf b z3 hb) g1⟩
   tups := bu.tups
   frzs := bu.frzs
   tbls := bu.tbls }
 refine ⟨a, C, dx, some t, H, rfl, I.os, I.bare, un, hok, F', na, fa, fun u z => ?_, q⟩
 cases z
 exact ⟨I.hok.fresh nt, Nat.le_trans I.sz nt⟩
theorem Bdy.pass (B : Bdy P w X E) : Passes (CX1 P w) X E := fun pins σ H s e s' I h => by
 obtain ⟨a, C, dx, T, H', rfl, os, bare, un, hok, F, na, fa, hT, q⟩ := h
 have I' : Inv X pins σ H' s' := I.call' os un (B.prog.symm ▸ B.wld.symm ▸ hok) bare (fun b z => absurd z (by simp))
 exact B.out I' F na (Nat.le_trans I.sz fa) (fun t z => ⟨(hT t z).1, Nat.le_trans I.sz (hT t z).2⟩) q
end
end L3
namespace L3
open PySem PySem.Spec PySem.Calls
open PyProof.Rows hiding St
open L2
theorem ownTail_of {K : PySem.W.Frag} {h : Heap} {A1 : Addr} {c0 : Value} {dd od : Option Addr} {cd : ClassData} {sl osl : Array (Option Value)} {es : Array DictEntry} {ep : Nat} {oc : Value} {bmB tl : List Value} (x : K.In h)
   (hA : K.lookup A1 = some ⟨c0, dd, .cls cd, sl⟩) (hN : K.lookup cd.ns = some ⟨oc, od, .dict es ep, osl⟩) (sk : StrKeys es) (ni : nsFind es "__init__" = none) (T : OwnTail h bmB tl) : OwnTail h bmB (.ref A1 :: tl) :=
 .own (x _ _ hA) ⟨_, es, ep, x _ _ hN, rfl, sk, fun _ => rfl⟩ ni T
abbrev tupOf (us : List Value) : Obj := { cls := .type "tuple", data := .seq us.toArray }
abbrev excOf (C t : Addr) : Obj := { cls := .ref C, data := .fields #[.ref t, .none, .none, .none, .bool false, .none] }
section
variable {prog : Program} {w : World} {A : Around} {K : PySem.W.Frag} {C N f : Addr} {R : Result → Shared → Prop} {s : Shared} {us : List Value}
variable {nm q : Str} {bs bm bmB : List Value} {sn : List Str} {sub : List Value} {ab : Bool} {col : Option Bool} {dd : Option Addr} {k0 k1 k2 k3 k5 : Option Value} {B newId initId : String}
theorem make_x (X : K.In s.heap) (hC : K.lookup C = some (excClassObj nm q C N bs bm true sn sub ab col dd k0 k1 k2 k3 k5 newId)) (T : OwnTail s.heap bmB bm) (F : ExcBaseFacts B newId initId bmB)
   (hi : PySem.W.findIn K (.ref C) "__init__" = some (some (.ref f))) (hf : PySem.W.typeIn K (.ref f) = some (.type "function")) (hu : us.length ≤ sizeLine)
   (h : codeAny (model prog w) (A.under (.builtin "type.__call__" ⟨.ref C :: us, []⟩)) (.call (.ref f) ⟨.ref (s.heap.objs.size + 1) :: us, []⟩) (PySem.W.InitBack (s.heap.objs.size + 1) R)
     { s with heap := (s.heap.push (tupOf us)).push (excOf C s.heap.objs.size) }) :
   codeAny (model prog w) A (.call (.ref C) ⟨us, []⟩) R s := by
 obtain ⟨hh, g, d, tk, os⟩ := s
 have gC := X _ _ hC
 have t1 := tc_lookup
 have t2 := tc_bind (.ref C)
 have tT : (⟨hh, g, d, tk, os⟩ : Shared).TypeIs (.ref C) "type" := ⟨_, gC, rfl⟩
 refine codeAny_of_tree ?_
 show wpAny _ _ (callAny (.ref C) _) _ _ _
 repeat (any_goals (first | assumption | with_reducible refine wpAny_loadPart_at gC ?_ | wp_step))
 refine ⟨rfl, ?_⟩
 refine codeAny_call_builtin_at (Code.quiet_builtin _ (by decide +kernel)) entry_typeCall (wpAny_check_type_call_sub gC ?_)
 repeat (first | with_reducible refine wpAny_loadPart_at gC ?_ | with_reducible refine wpAny_madeBy_exc gC ?_ | wp_step)
 refine codeAny_call_builtin_code (Code.quiet_builtin _ F.quiet) (wpAny_check_new_subT F T gC (codeAny_exc_new_subT F T gC ?_ hu))
 show wpAny _ _ _ _ _ _
 have kp : ∀ b o, hh.get? b = some o → ((hh.push (tupOf us)).push (excOf C hh.objs.size)).get? b = some o := fun b o z => Heap.get?_push_of_some _ (Heap.get?_push_of_some _ z)
 have gC1 := kp _ _ gC
 have X1 := X.keeps kp
 have gx : ((hh.push (tupOf us)).push (excOf C hh.objs.size)).get? (hh.objs.size + 1) = some (excOf C hh.objs.size) := by heap_get
 have cC : (Value.ref C :: bm).contains (.ref C) = true := by simp
 have tx : PySem.W.Looks (model prog w) ((hh.push (tupOf us)).push (excOf C hh.objs.size)) (typeOf (.ref (hh.objs.size + 1))) (.ref C) := (PySem.W.Looks.ld gx).andThen .now
 have sx : PySem.W.Looks (model prog w) ((hh.push (tupOf us)).push (excOf C hh.objs.size)) (isSubtype (.ref C) (.ref C)) true := fun A1 Q1 E1 s1 k1 z1 => by
   obtain ⟨h1, g1, d1, u1, o1⟩ := s1
   refine wpAny_isSubtype_exc (k1 _ _ gC1) ?_
   rw [cC]
   exact z1
 have ix := PySem.W.looks_findIn (M := model prog w) X1 hi
 have bx := PySem.W.bind_fn (M := model prog w) X1 (.ref (hh.objs.size + 1)) hf
 have nx : PySem.W.Looks (model prog w) ((hh.push (tupOf us)).push (excOf C hh.objs.size)) (isInstance (.ref (hh.objs.size + 1)) (.ref C)) true := tx.andThen sx
 refine wpAny_bind (nx.here ?_)
 rw [if_neg (by decide)]
 unfold callSpecial? specialOf
 refine wpAny_bind (wpAny_holding (wpAny_bind (wpAny_bind (tx.here ?_))))
 refine ix.here ?_
 refine wpAny_holding (wpAny_bind (bx.here ?_))
 refine wpAny_bind (wpAny_call (codeAny_mono h fun r s' z => ?_))
 rcases r with e | (v | _ | _ | _)
 · exact z
 · exact z.elim
 · exact z.elim
 · exact z.elim
 · obtain ⟨rfl, z⟩ := z
   exact wpAny_pure (wpAny_pure z)
end
end L3
namespace L3
open PySem PySem.Spec PySem.Calls Builtin Builtin.ObjectAttr
open PyProof.Rows hiding St
open L2
structure XCls (K : PySem.W.Frag) (C : Addr) (f : Str) : Prop where
 cls : ∃ cd, PySem.W.clsIn K C = some cd ∧ cd.hasDict = true ∧ cd.mro.isEmpty = false ∧ cd.mro.contains (.type "object") = true ∧ ∀ v, refuseLoop v "__setattr__" cd.mro = pure ()
 sa : PySem.W.findIn K (.ref C) "__setattr__" = some (some (.builtin "object.__setattr__"))
 no : PySem.W.findIn K (.ref C) f = some none
section
variable {prog : Program} {w : World} {A : Around} {E : Value → Shared → Prop} {K : PySem.W.Frag} {C x : Addr} {s : Shared} {f : Str} {v : Value} {o : Obj} {vs : Array Value} {Q : Unit → Shared → Prop} {R : Result → Shared → Prop}
theorem osa_x {tk : Tok} (X : K.In s.heap) (c : XCls K C f) (hx : s.heap.get? x = some o) (hc : o.cls = .ref C)
   (h : wpAny (model prog w) A.in1 (storeInOwnDict (.ref x) (.ref C) (.str f tk) f v false)
     (fun fin s' => match fin with | .done z => R (.ok z) s' | .again c' => c'.quiet = true ∧ codeAny (model prog w) A c' R s') (fun e s' => R (.error e) s') s) :
   codeAny (model prog w) A (.call (.builtin "object.__setattr__") ⟨[.ref x, .str f tk, v], []⟩) R s := by
 obtain ⟨⟨cd, c1, c2, c3, c4, c5⟩, sa, no⟩ := c
 have S := PySem.F.store_object
 have ty : PySem.W.Looks (model prog w) s.heap (typeOf (.ref x)) (.ref C) := by
   obtain ⟨oc, od, dt, sl⟩ := o
   cases hc
   exact (PySem.W.Looks.ld hx).andThen .now
 have sb : PySem.W.Looks (model prog w) s.heap (isInstance (.ref x) (.type "object")) true := ty.andThen (PySem.W.looks_mroIn X (by unfold PySem.W.mroIn; rw [c1, Option.bind_some, if_neg (by rw [c3]; decide), c4]))
 refine codeAny_call_builtin S.slot.plain S.entry (@PySem.W.check_slot (model prog w) _ _ s "object.__setattr__" "object" "__setattr__" (.ref x) [.str f tk, v] [] _ S.kind S.split sb (S.args (.ref x) (.str f tk) v) ?_)
 have mr : PySem.W.Looks (model prog w) s.heap (mroOf (.ref C)) cd.mro := (PySem.W.looks_clsIn X c1).andThen .now
 rw [PySem.W.osa_eq, refuse_eq]
 refine wpAny_bind (wpAny_bind (ty.here (wpAny_bind (mr.here ?_))))
 rw [c5]
 refine wpAny_pure (wpAny_bind (ty.here (wpAny_bind ((PySem.W.looks_findIn X no).here (wpAny_bind (wpAny_pure ?_))))))
 exact h
theorem set_x (X : K.In s.heap) (c : XCls K C f) (hx : s.heap.get? x = some o) (hc : o.cls = .ref C)
   (h : wpAny (model prog w) A.in1 (storeInOwnDict (.ref x) (.ref C) (.str f s.toks) f v false) (fun fin s' => match fin with | .done (.ret _) => Q () s' | _ => False) E { s with toks := s.toks + 1 }) :
   wpAny (model prog w) A (setAttr (.ref x) f v) Q E s := by
 have ty : PySem.W.Looks (model prog w) s.heap (typeOf (.ref x)) (.ref C) := by
   obtain ⟨oc, od, dt, sl⟩ := o
   cases hc
   exact (PySem.W.Looks.ld hx).andThen .now
 unfold setAttr callSpecial? specialOf
 refine wpAny_bind (wpAny_mkText (wpAny_bind (wpAny_bind (wpAny_bind (PySem.W.Looks.here (s := { s with toks := s.toks + 1 }) ty ?_)))))
 refine PySem.W.Looks.here (s := { s with toks := s.toks + 1 }) (PySem.W.looks_findIn X c.sa) ?_
 refine wpAny_holding ?_
 rw [PySem.F.store_object.slot.bind]
 refine wpAny_bind (wpAny_pure (wpAny_bind (wpAny_call (osa_x (s := { s with toks := s.toks + 1 }) X c hx hc (wpAny_mono h (fun fin s' z => ?_) fun e s' z => z)))))
 rcases fin with (_ | _ | _ | u) | c'
 · exact z.elim
 · exact z.elim
 · exact z.elim
 · exact wpAny_pure (wpAny_pure z)
 · exact z.elim
theorem set_x1 (X : K.In s.heap) (c : XCls K C f) (hx : s.heap.get? x = some o) (hc : o.cls = .ref C) (hd : o.data = .fields vs) (hn : o.dict = none)
   (h : ∀ h' d tk, h'.get? x = some { o with dict := some d } → h'.Ns1 d (fun y => if y = f then some v else none) → d = s.heap.objs.size → (∀ b u, b ≠ x → s.heap.get? b = some u → h'.get? b = some u) → Q () { s with heap := h', toks := tk }) :
   wpAny (model prog w) A (setAttr (.ref x) f v) Q E s := by
 refine set_x X c hx hc ?_
 obtain ⟨⟨cd, c1, c2, c3, c4, c5⟩, sa, no⟩ := c
 obtain ⟨hh, g, d, tk, os⟩ := s
 obtain ⟨oc, od, dt, sl⟩ := o
 cases hc
 cases hd
 cases hn
 have gx : (hh.push PySem.W.emptyDict).get? x = some ⟨.ref C, none, .fields vs, sl⟩ := Heap.get?_push_of_some _ hx
 have nx : x ≠ hh.objs.size := Nat.ne_of_lt (Heap.lt_size hx)
 unfold storeInOwnDict ownDictForStores instanceDict
 refine wpAny_bind (wpAny_pure (wpAny_bind (wpAny_bind (wpAny_loadPart hx (wpAny_bind (PySem.W.Looks.here (s := ⟨hh, g, d, tk + 1, os⟩) (PySem.W.looks_clsIn X c1) ?_))))))
 rw [c2]
 refine wpAny_bind (wpAny_alloc ?_)
 refine wpAny_bind (wpAny_update gx ?_)
 refine wpAny_pure ?_
 have g2 : ((hh.push PySem.W.emptyDict).update x fun o => { cls := o.cls, dict := some hh.objs.size, data := o.data, slots := o.slots }).get? hh.objs.size = some PySem.W.emptyDict := (Heap.get?_update_other _ _ nx).trans (Heap.get?_push_at rfl rfl)
 have g3 : ((hh.push PySem.W.emptyDict).update x fun o => { cls := o.cls, dict := some hh.objs.size, data := o.data, slots := o.slots }).get? x = some ⟨.ref C, some hh.objs.size, .fields vs, sl⟩ := Heap.get?_update_self _ gx rfl
 have n2 : ((hh.push PySem.W.emptyDict).update x fun o => { cls := o.cls, dict := some hh.objs.size, data := o.data, slots := o.slots }).Ns hh.objs.size (fun _ => none) := ⟨_, #[], _, g2, rfl, fun e he => absurd he (by simp), fun _ => rfl⟩
 show wpAny _ _ (storeInDict hh.objs.size (.str f tk) f v) _ _ _
 unfold storeInDict newKeyGuard
 refine wpAny_bind (wpAny_pure (wpAny_bind (wpAny_nsSet1 (Heap.Ns1.of_empty n2) fun h' m1 sb => ?_)))
 obtain ⟨oD, eD, pD, hoD, hdD, hcD⟩ := m1.count (Within.cons f v Within.nil)
 refine wpAny_bind (wpAny_lookBehind hoD (by rw [hdD]; exact pastItsLine_dict (Nat.le_trans hcD (by rw [List.length_cons, List.length_nil, sizeLine_eq]; omega))) (wpAny_pure ?_))
 refine h h' hh.objs.size _ ((sb.2 x nx).trans g3) m1 rfl fun b u nb hb => ?_
 exact (sb.2 b (Nat.ne_of_lt (Heap.lt_size hb))).trans ((Heap.get?_update_other _ _ (Ne.symm nb)).trans (Heap.get?_push_of_some _ hb))
theorem set_x2 {dx : Addr} {mA : Str → Option Value} {ns : List Str} (X : K.In s.heap) (c : XCls K C f) (hx : s.heap.get? x = some o) (hc : o.cls = .ref C) (hd : o.data = .fields vs) (hn : o.dict = some dx) (m : s.heap.Ns1 dx mA) (hw : Within mA ns) (hz : ns.length ≤ 1000)
   (h : ∀ h' tk, h'.Ns1 dx (fun y => if y = f then some v else mA y) → (∀ b u, b ≠ dx → s.heap.get? b = some u → h'.get? b = some u) → Q () { s with heap := h', toks := tk }) :
   wpAny (model prog w) A (setAttr (.ref x) f v) Q E s := by
 refine set_x X c hx hc ?_
 obtain ⟨⟨cd, c1, c2, c3, c4, c5⟩, sa, no⟩ := c
 obtain ⟨hh, g, d, tk, os⟩ := s
 obtain ⟨oc, od, dt, sl⟩ := o
 cases hc
 cases hd
 cases hn
 unfold storeInOwnDict ownDictForStores instanceDict
 refine wpAny_bind (wpAny_pure (wpAny_bind (wpAny_bind (wpAny_loadPart hx (wpAny_bind (PySem.W.Looks.here (s := ⟨hh, g, d, tk + 1, os⟩) (PySem.W.looks_clsIn X c1) ?_))))))
 rw [c2]
 refine wpAny_pure (a := some dx) ?_
 show wpAny _ _ (storeInDict dx (.str f tk) f v) _ _ _
 unfold storeInDict newKeyGuard
 refine wpAny_bind (wpAny_pure (wpAny_bind (wpAny_nsSet1 m fun h' m1 sb => ?_)))
 obtain ⟨oD, eD, pD, hoD, hdD, hcD⟩ := m1.count (Within.cons f v hw)
 refine wpAny_bind (wpAny_lookBehind hoD (by rw [hdD]; exact pastItsLine_dict (Nat.le_trans hcD (by rw [List.length_cons, sizeLine_eq]; omega))) (wpAny_pure ?_))
 exact h h' _ m1 fun b u nb hb => (sb.2 b nb).trans hb
end
end L3
namespace L3
open PySem PySem.Spec PySem.Calls
open PyProof.Rows hiding St
open L2
abbrev excAt (C t : Addr) (dx : Option Addr) : Obj := { cls := .ref C, dict := dx, data := .fields #[.ref t, .none, .none, .none, .bool false, .none] }
def XO (x C : Addr) (dx : Option Addr) : HO := .ext fun h => ∃ t : Addr, h.get? x = some (excAt C t dx)
def MutX : Option HO → Prop
 | some (.ext _) => True
 | some (.xd _) => True
 | _ => False
section
variable {X : Cx} {pins : List (Addr × Obj)} {σ : St} {H H' : Hp} {s : Shared} {h' : Heap}
theorem Inv.chg {t' : Nat} (I : Inv X pins σ H s) (S : Addr → Prop) (hS : ∀ b, S b → (H b = none ∧ s.heap.objs.size ≤ b) ∨ MutX (H b)) (k : ∀ b u, ¬ S b → s.heap.get? b = some u → h'.get? b = some u) (ex : ∀ b, S b → ∃ u, h'.get? b = some u)
   (ag : ∀ b, ¬ S b → H' b = H b) (new : ∀ b o, S b → H' b = some o → ObjOk X.prog X.w H' h' b o) : Inv X pins σ H' { s with heap := h', toks := t' } := by
 have nS : ∀ b u, H b = some u → ¬ MutX (some u) → ¬ S b := fun b u e n z => by
   rcases hS b z with q | q
   · rw [q.1] at e; cases e
   · rw [e] at q; exact n q
 have nF : ∀ b o, s.heap.get? b = some o → H b = none → ¬ S b := fun b o g n z => by
   rcases hS b z with q | q
   · exact absurd (Heap.lt_size g) (Nat.not_lt.mpr q.2)
   · rw [n] at q; exact q
 refine I.un ⟨fun b o g n _ _ => k b o (nF b o g n) g, fun b o g n _ _ => ⟨o.slots, k b o (nF b o g n) g⟩, fun b o g n _ => by rw [ag b (nF b o g n)]; exact n, fun b o g _ => ?_, fun b xs q => ?_, fun b o u q => ?_, fun b ps q => ?_⟩ fun b o q => ?_
 · by_cases z : S b
   · exact ex b z
   · exact ⟨o, k b o z g⟩
 · rw [ag b (nS b _ q fun z => z)]; exact q
 · rw [ag b (nS b _ q fun z => z)]; exact q
 · exact ⟨#[], by rw [ag b (nS b _ q fun z => z), Array.append_empty]; exact q⟩
 · by_cases z : S b
   · exact new b o z q
   · rw [ag b z] at q
     refine (I.hok b o q).stay (fun c u hc g => k c u ?_ g) (fun c r => ?_) fun c xs r => ?_
     · rcases hc with rfl | hc
       · exact z
       · exact nS c _ hc fun z => z
     · rw [ag c (nS c _ r fun z => z)]; exact r
     · rw [ag c (nS c _ r fun z => z)]; exact r
theorem xo_ok {x C t : Addr} {dx : Option Addr} (e : h'.get? x = some (excAt C t dx)) : ObjOk X.prog X.w H' h' x (XO x C dx) :=
 ⟨⟨t, e⟩, ⟨_, e⟩, fun h1 h2 ⟨u, g⟩ k => ⟨u, k _ g⟩⟩
theorem XO.at {x C : Addr} {dx : Option Addr} (I : Inv X pins σ H s) (e : H x = some (XO x C dx)) : ∃ t : Addr, s.heap.get? x = some (excAt C t dx) := (I.hok x _ e).1
def rSetX (K : PySem.W.Frag) (f : Str) (v y : V) (H : Hp) (Q : Hp → Prop) : Prop := ∃ x C, v = .ref x ∧ XCls K C f ∧
 ((H x = some (XO x C none) ∧ ∀ d, H d = none → d ≠ x → Q (upd (upd H d (.xd [(f, y)])) x (XO x C (some d)))) ∨
  ∃ d fs, H x = some (XO x C (some d)) ∧ H d = some (.xd fs) ∧ fs.length < 1000 ∧ Q (upd H d (.xd (putF f y fs))))
theorem setattr_x {A : Around} {E : Value → Shared → Prop} {f : Str} {v y : V} {u uv : Value} {Q : Unit → Shared → Prop} {Qh : Hp → Prop} (I : Inv X pins σ H s) (rv : RelV v uv) (ry : RelV y u) (h : rSetX X.K f v y H Qh)
   (q : ∀ s' H', Inv X pins σ H' s' → Qh H' → Q () s') : wpAny (model X.prog X.w) A (setAttr uv f u) Q E s := by
 obtain ⟨x, C, rfl, c, ⟨hx, hq⟩ | ⟨d, fs, hx, hd, hl, hq⟩⟩ := h
 · obtain rfl : uv = Value.ref x := rv
   obtain ⟨t, g⟩ := XO.at I hx
   refine set_x1 I.kIn c g rfl rfl rfl fun h' d tk g' m ed kp => ?_
   have nd : H d = none := I.hok.fresh (Nat.le_of_eq ed.symm)
   have dx : d ≠ x := fun w => by rw [w, hx] at nd; cases nd
   refine q _ _ ?_ (hq d nd dx)
   refine Inv.chg I (fun b => b = x ∨ b = d) (fun b hb => ?_) (fun b u nb g => kp b u (fun z => nb (.inl z)) g) (fun b hb => ?_) (fun b nb => ?_) fun b o hb e => ?_
   · rcases hb with rfl | rfl
     · right; rw [hx]; exact trivial
     · left; exact ⟨nd, Nat.le_of_eq ed.symm⟩
   · rcases hb with rfl | rfl
     · exact ⟨_, g'⟩
     · obtain ⟨o, _, _, e, _⟩ := m; exact ⟨o, e⟩
   · rw [upd_ne (fun z => nb (.inl z)), upd_ne (fun z => nb (.inr z))]
   · rcases hb with rfl | rfl
     · rw [upd_same] at e; cases e; exact xo_ok g'
     · rw [upd_ne dx, upd_same] at e
       cases e
       refine ⟨_, m, fun g => ?_⟩
       show RelO (List.lookup g [(f, y)]) (if g = f then some u else none)
       by_cases w : g = f
       · subst w; rw [List.lookup_cons_self, if_pos rfl]; exact ry
       · have hb : (g == f) = false := beq_eq_false_iff_ne.mpr w
         rw [List.lookup_cons, hb, if_neg w]
         exact trivial
 · obtain rfl : uv = Value.ref x := rv
   obtain ⟨t, g⟩ := XO.at I hx
   obtain ⟨mA, m, rl⟩ := I.hok d _ hd
   have wi : Within mA (fs.map (·.1)) := fun g hg => by
     have := rl g
     cases l : fs.lookup g with
     | none => rw [l] at this; cases w : mA g with
       | none => exact absurd w hg
       | some _ => rw [w] at this; exact this.elim
     | some v => exact List.mem_map.mpr ⟨(g, v), PySem.mem_of_lookup l, rfl⟩
   refine set_x2 I.kIn c g rfl rfl rfl m wi (by rw [List.length_map]; omega) fun h' tk m' kp => ?_
   have dx : d ≠ x := fun w => by rw [w, hx] at hd; cases hd
   refine q _ _ ?_ hq
   refine Inv.chg I (fun b => b = d) (fun b hb => ?_) (fun b u nb g => kp b u nb g) (fun b hb => ?_) (fun b nb => upd_ne nb) fun b o hb e => ?_
   · subst hb; right; rw [hd]; exact trivial
   · subst hb; obtain ⟨o, _, _, e, _⟩ := m'; exact ⟨o, e⟩
   · subst hb
     rw [upd_same] at e
     cases e
     refine ⟨_, m', fun g => ?_⟩
     show RelO ((putF f y fs).lookup g) (if g = f then some u else mA g)
     rw [lookup_putF]
     by_cases w : g = f
     · rw [if_pos w, if_pos w]; exact ry
     · rw [if_neg w, if_neg w]; exact rl g
def sFldX (K : PySem.W.Frag) (ta tv : TE) (f : Str) : TS := fun D σ H => tv σ H fun y H1 => ta σ H1 fun v H2 => rSetX K f v y H2 fun H3 => D.nx σ H3
theorem ps_fldx {o value : Expr} {f : Str} {pos pos' : Pos} {ta tv : TE} (ha : PE X o ta) (hv : PE X value tv) (hs : swapsWith value (some (.Attribute o f pos')) pos.line X.env = pure false) : PS X (.Assign [.Attribute o f pos'] value pos) (sFldX X.K ta tv f) := by
 intro pins s σ H D I h
 refine plainObj_wpAny_Assign_Attribute (thn (hv pins s σ H _ I h) fun u s1 ⟨y, H1, I1, ry, q⟩ => thn (ha pins s1 σ H1 _ I1 q) fun ov s2 ⟨x, H2, I2, rx, q2⟩ => ?_) hs
 exact setattr_x I2 rx ry q2 fun s3 H3 I3 q3 => ⟨σ, _, I3, q3⟩
end
end L3
namespace L3
open PySem PySem.Spec PySem.Calls
open PyProof.Rows hiding St
open L2
def spInit (K : PySem.W.Frag) (ns : List Str) : Sp := fun vs H Q _ => ∃ x C ys, vs = .ref x :: ys ∧ ys.length = ns.length ∧ (∀ n ∈ ns, XCls K C n) ∧ H x = some (XO x C none) ∧ ∀ d, H d = none → d ≠ x → Q .non (upd (upd H d (.xd (ns.zip ys))) x (XO x C (some d)))
theorem spInit_len {K : PySem.W.Frag} {ns ps : List Str} (h : ps.length = ns.length + 1) : ∀ vs H Q E, spInit K ns vs H Q E → vs.length = ps.length := fun vs H Q E ⟨x, C, ys, e, l, _⟩ => by rw [e, List.length_cons, l, h]
structure XMk (K : PySem.W.Frag) (C f : Addr) (ns : List Str) : Prop where
 cls : ∃ (nm q : Str) (N : Addr) (bs bm bmB : List Value) (sn : List Str) (sub : List Value) (ab : Bool) (col : Option Bool) (dd : Option Addr) (k0 k1 k2 k3 k5 : Option Value) (B newId initId : String),
   K.lookup C = some (excClassObj nm q C N bs bm true sn sub ab col dd k0 k1 k2 k3 k5 newId) ∧ (∀ h : Heap, K.In h → OwnTail h bmB bm) ∧ ExcBaseFacts B newId initId bmB
 init : PySem.W.findIn K (.ref C) "__init__" = some (some (.ref f))
 fn : PySem.W.typeIn K (.ref f) = some (.type "function")
 kp : PySem.W.keepIn K (.ref C) = true
 fld : ∀ n ∈ ns, XCls K C n
section
variable {X : Cx} {pins : List (Addr × Obj)} {σ : St} {H : Hp} {s : Shared} {k : Nat} {C f : Addr} {fd : FuncData} {ps ns : List Str} {us : List Value} {vs : List V} {Q : Value → Shared → Prop}
theorem run_makex (M : XMk X.K C f ns) (F : FnOk X.prog X.w X.K X.mg X.base CX0 k f fd ps (spInit X.K ns)) (hr : Room (k + 1) X.A) (hb : Binds X.K fd ps []) (I : Inv X pins σ H s) (r : Vals vs us) (hl : vs.length = ns.length) (hz : ns.length ≤ 1000)
   (h : ∀ s' x d, Inv X pins σ (upd (upd H d (.xd (ns.zip vs))) x (XO x C (some d))) s' → s.heap.objs.size ≤ x → H x = none → H d = none → d ≠ x → Q (.ref x) s') : wpAny (model X.prog X.w) X.A (call (.ref C) us) Q X.xe s := by
 obtain ⟨nm, q, N, bs, bm, bmB, sn, sub, ab, col, dd, k0, k1, k2, k3, k5, B, newId, initId, hC, T, EB⟩ := M.cls
 have lu : us.length ≤ sizeLine := by rw [← r.length, hl, sizeLine_eq]; omega
 have kp : ∀ b o, s.heap.get? b = some o → ((s.heap.push (tupOf us)).push (excOf C s.heap.objs.size)).get? b = some o := fun b o z => Heap.get?_push_of_some _ (Heap.get?_push_of_some _ z)
 have gx : ((s.heap.push (tupOf us)).push (excOf C s.heap.objs.size)).get? (s.heap.objs.size + 1) = some (excOf C s.heap.objs.size) := by heap_get
 have nx : H (s.heap.objs.size + 1) = none := I.hok.fresh (Nat.le_succ _)
 have I2 : Inv X pins σ (upd H (s.heap.objs.size + 1) (XO (s.heap.objs.size + 1) C none)) { s with heap := (s.heap.push (tupOf us)).push (excOf C s.heap.objs.size), toks := s.toks } :=
   Inv.chg I (fun b => b = s.heap.objs.size + 1) (fun b hb => .inl (by subst hb; exact ⟨nx, Nat.le_succ _⟩)) (fun b u _ g => kp b u g) (fun b hb => by subst hb; exact ⟨_, gx⟩) (fun b nb => upd_ne nb) fun b o hb e => by
     subst hb
     rw [upd_same] at e
     cases e
     exact xo_ok gx
 have r2 : Vals (V.ref (s.heap.objs.size + 1) :: vs) (Value.ref (s.heap.objs.size + 1) :: us) := .cons rfl r
 have sp : spInit X.K ns (V.ref (s.heap.objs.size + 1) :: vs) (upd H (s.heap.objs.size + 1) (XO (s.heap.objs.size + 1) C none)) (fun v H2 => v = .non ∧ ∃ d, H d = none ∧ d ≠ s.heap.objs.size + 1 ∧ H2 = upd (upd H d (.xd (ns.zip vs))) (s.heap.objs.size + 1) (XO (s.heap.objs.size + 1) C (some d))) E0 :=
   ⟨_, C, vs, rfl, hl, M.fld, upd_same, fun d hd dx => ⟨rfl, d, by rw [upd_ne dx] at hd; exact hd, dx, by
     funext b
     unfold upd
     by_cases e1 : b = s.heap.objs.size + 1
     · rw [if_pos e1, if_pos e1]
     · rw [if_neg e1, if_neg e1, if_neg e1]⟩⟩
 have hl2 : (Value.ref (s.heap.objs.size + 1) :: us).length = ps.length := by rw [← r2.length]; exact F.len _ _ _ _ sp
 refine wpAny_call (make_x I.kIn hC (T _ I.kIn) EB M.init M.fn lu (codeAny_mono (F.run _ X.stack _ _ ⟨Value.ref (s.heap.objs.size + 1) :: us, []⟩ (Value.ref (s.heap.objs.size + 1) :: us) _ _ E0 (hr.make C us []) (I2.env0.make C us []) ?_ r2 sp) fun r s' hq => ?_))
 · have := hb _ (Value.ref (s.heap.objs.size + 1) :: us) I2.kIn (by rw [List.append_nil]; exact hl2)
   rwa [List.append_nil] at this
 · cases r with
   | error e => exact hq.elim
   | ok fl =>
     cases fl with
     | ret u =>
       obtain ⟨v, H', I3, rv, ev, d, hd, dx, e2⟩ := I2.after hq
       subst ev e2
       exact ⟨rv, h s' _ d I3 (Nat.le_succ _) nx hd dx⟩
     | next => exact hq.elim
     | brk => exact hq.elim
     | cont => exact hq.elim
def dropA (H : Hp) (x : Addr) : Hp := fun b => if b = x then none else H b
theorem drop_ne {H : Hp} {x b : Addr} (h : b ≠ x) : dropA H x b = H b := if_neg h
theorem drop_same {H : Hp} {x : Addr} : dropA H x x = none := if_pos rfl
theorem Inv.drop {x : Addr} (I : Inv X pins σ H s) (m : MutX (H x)) : Inv X pins σ (dropA H x) s := by
 have ne : ∀ b u, H b = some u → ¬ MutX (some u) → b ≠ x := fun b u e n z => by rw [← z, e] at m; exact n m
 have dn : ∀ b, H b = none → dropA H x b = none := fun b e => by
   by_cases z : b = x
   · rw [z]; exact drop_same
   · rw [drop_ne z]; exact e
 refine ⟨I.ok, I.os, I.bare, ⟨I.base.keep, I.base.slot, fun b o g n hx => dn b (I.base.free b o g n hx), I.base.there, fun b xs q => ?_, fun b o u q => ?_, fun b ps q => ?_⟩, I.loc, I.cell, dn _ I.free, fun y c e => dn _ (I.freeC y c e), fun p hp => ?_, fun b o q => ?_, I.len⟩
 · have := I.base.tups b xs q
   rw [drop_ne (ne b _ this fun z => z)]; exact this
 · have := I.base.frzs b o u q
   rw [drop_ne (ne b _ this fun z => z)]; exact this
 · obtain ⟨mo, this⟩ := I.base.tbls b ps q
   exact ⟨mo, by rw [drop_ne (ne b _ this fun z => z)]; exact this⟩
 · obtain ⟨a1, a2, a3⟩ := I.pin p hp
   exact ⟨a1, dn _ a2, a3⟩
 · have nb : b ≠ x := fun z => by rw [z, drop_same] at q; cases q
   rw [drop_ne nb] at q
   refine (I.hok b o q).stay (fun c u _ g => g) (fun c r => ?_) fun c xs r => ?_
   · rw [drop_ne (ne c _ r fun z => z)]; exact r
   · rw [drop_ne (ne c _ r fun z => z)]; exact r
def tRaise (C : Addr) (ns : List Str) (E : XK) (t : TA) : TS := fun D σ H => t σ H fun vs H1 => vs.length = ns.length ∧ ∀ d, H1 d = none → E (.ref C) (some d) (upd H1 d (.xd (ns.zip vs)))
section
variable {A : Around} {E : Value → Shared → Prop} {x C N : Addr} {M : Model} {env : Env} {ev : Sem Value}
variable {nm q : Str} {bs bm : List Value} {sn : List Str} {sub : List Value} {ab : Bool} {col : Option Bool} {dd : Option Addr} {k0 k1 k2 k3 k5 : Option Value} {newId : String}
theorem raise_go {Q : Flow → Shared → Prop} (hm : bm.contains (.type "BaseException") = true) (hh : A.handled = none)
   (h : wpAny M A ev (fun v s1 => ∃ x t dx, v = .ref x ∧ s1.heap.get? C = some (excClassObj nm q C N bs bm true sn sub ab col dd k0 k1 k2 k3 k5 newId) ∧ s1.heap.get? x = some (excAt C t dx) ∧ E (.ref x) s1) E s) :
   wpAny M A (raiseStmt env (some ev) none) Q E s := by
 have cB : (Value.ref C :: bm).contains (.type "BaseException") = true := by rw [List.contains_cons, hm, Bool.or_true]
 unfold raiseStmt
 refine wpAny_bind (wpAny_mono h (fun v s1 h1 => ?_) fun _ _ z => z)
 obtain ⟨x, t, dx, rfl, gC, gx, z⟩ := h1
 obtain ⟨h1, g1, d1, u1, o1⟩ := s1
 repeat (first | with_reducible refine wpAny_loadPart_at gx ?_ | with_reducible refine wpAny_loadPart_at gC ?_ | (with_reducible refine wpAny_isSubtype_exc gC ?_; rw [cB]) | wp_step)
 exact wpAny_raiseNew_none hh z
end
theorem ps_raise {P : Program} {w : World} {E : XK} {x : Str} {e : Expr} {es : List Expr} {np cpos pos : Pos} {t : TA} (B : Bdy P w X E) (hc : X.calm = true) (M : XMk X.K C f ns) (F : FnOk X.prog X.w X.K X.mg X.base CX0 k f fd ps (spInit X.K ns)) (hr : Room (k + 1) X.A) (hb : Binds X.K fd ps []) (hz : ns.length ≤ 1000)
   (hg : Gl X x) (hm : X.mg x = some (.ref C)) (ha : PA X (e :: es) t) (hdb : (x == ("__debug__" : Str)) = false := by decide) (he : starEach (e :: es) X.env = (false, eval e X.env) :: starEach es X.env := by rfl) (hpl : (backTo cpos (starEach es X.env)).any (·.1) = false := by rfl) :
   PS X (.Raise (some (.Call (.Name x np) (e :: es) [] cpos)) none pos) (tRaise C ns E t) := by
 intro pins s σ H D I h
 obtain ⟨nm, q, N, bs, bm, bmB, sn, sub, ab, col, dd, k0, k1, k2, k3, k5, B1, newId, initId, hC, T, EB⟩ := id M.cls
 have hb2 : bm.contains (.type "BaseException") = true := (T _ I.kIn).hasType EB.hasBase
 rw [arm_exec_Raise]
 refine wpAny_bind (wpAny_standAt (raise_go (C := C) (nm := nm) (q := q) (N := N) (bs := bs) (sn := sn) (sub := sub) (ab := ab) (col := col) (dd := dd) (k0 := k0) (k1 := k1) (k2 := k2) (k3 := k3) (k5 := k5) (newId := newId) hb2 (I.ok.hd hc) ?_))
 refine wpAny_bind (wpAny_Call_Name_kw (ld_glob I hg hm ?_ hdb))
 refine PySem.W.callWith_K (h₀ := X.base) I.ok.mod.kin M.kp (thn (ha cpos pins s σ H _ I h) fun us s1 ⟨vs, H1, I1, r, hl, hq⟩ => ⟨I1.kIn, ?_⟩) he hpl
 refine run_makex M F hr hb I1 r hl hz fun s' x d I2 sx nx nd dx => wpAny_bind (wpAny_standAt (wpAny_pure ?_))
 obtain ⟨t, g⟩ := XO.at I2 upd_same
 refine ⟨x, t, some d, rfl, I2.kIn _ _ hC, g, ?_⟩
 have eH : dropA (upd (upd H1 d (.xd (ns.zip vs))) x (XO x C (some d))) x = upd H1 d (.xd (ns.zip vs)) := by
   funext b
   by_cases z : b = x
   · rw [z, drop_same, upd_ne (Ne.symm dx), nx]
   · rw [drop_ne z, upd_ne z]
 have I3 := Inv.drop I2 (x := x) (by rw [upd_same]; exact trivial)
 rw [eH] at I3
 refine B.out I3 (T := none) ⟨⟨_, _, g, rfl, rfl, rfl, Nat.lt_of_lt_of_le (by decide : 1 < 6) (Nat.le_refl _), rfl⟩, fun t z => nomatch z⟩ (by rw [upd_ne (Ne.symm dx)]; exact nx) ?_ (fun t z => nomatch z) (hq d nd)
 exact Nat.le_trans I1.sz sx
end
end L3
namespace L3
open PySem PySem.Spec PySem.Calls
open PyProof.Rows hiding St
open L2
section
variable {X : Cx} {pins : List (Addr × Obj)} {σ : St} {H : Hp} {s : Shared} {a : Addr}
def XR (a C dx : Addr) : HO := .ext fun h => ∃ o vs, h.get? a = some o ∧ o.cls = .ref C ∧ o.dict = some dx ∧ o.data = .fields vs
end
end L3
namespace L3
open PySem PySem.Spec
open PyProof.Rows hiding St
open L2
mutual
inductive Is (K : PySem.W.Frag) (F : Addr → Prop) (H : Hp) : V → PyData → Prop
 | none : Is K F H .non .none
 | bool (b) : Is K F H (.bl b) (.bool b)
 | int (i) : Is K F H (.int i) (.int i)
 | str (x) : Is K F H (.str x) (.str x)
 | list {a xs ds} : F a → H a = some (.lst xs) → IsAll K F H xs ds → Is K F H (.ref a) (.list ds)
 | tuple {a xs ds} : SqT K H a xs → IsAll K F H xs ds → Is K F H (.ref a) (.tuple ds)
inductive IsAll (K : PySem.W.Frag) (F : Addr → Prop) (H : Hp) : List V → List PyData → Prop
 | nil : IsAll K F H [] []
 | cons {v vs d ds} : Is K F H v d → IsAll K F H vs ds → IsAll K F H (v :: vs) (d :: ds)
end
section
variable {K : PySem.W.Frag} {F F' : Addr → Prop} {H H' : Hp}
mutual
theorem Is.to (hL : ∀ a xs, F a → H a = some (.lst xs) → F' a ∧ H' a = some (.lst xs)) (hT : ∀ a xs, SqT K H a xs → SqT K H' a xs) : ∀ {v d}, Is K F H v d → Is K F' H' v d
 | _, _, .none => .none
 | _, _, .bool b => .bool b
 | _, _, .int i => .int i
 | _, _, .str x => .str x
 | _, _, .list f q r => .list (hL _ _ f q).1 (hL _ _ f q).2 (IsAll.to hL hT r)
 | _, _, .tuple q r => .tuple (hT _ _ q) (IsAll.to hL hT r)
theorem IsAll.to (hL : ∀ a xs, F a → H a = some (.lst xs) → F' a ∧ H' a = some (.lst xs)) (hT : ∀ a xs, SqT K H a xs → SqT K H' a xs) : ∀ {vs ds}, IsAll K F H vs ds → IsAll K F' H' vs ds
 | _, _, .nil => .nil
 | _, _, .cons r t => .cons (Is.to hL hT r) (IsAll.to hL hT t)
end
theorem IsAll.length : ∀ {vs ds}, IsAll K F H vs ds → vs.length = ds.length
 | _, _, .nil => rfl
 | _, _, .cons _ t => by rw [List.length_cons, List.length_cons, IsAll.length t]
theorem IsAll.get : ∀ {vs ds} {i : Nat} {d}, IsAll K F H vs ds → ds[i]? = some d → ∃ v, vs[i]? = some v ∧ Is K F H v d
 | _, _, _, _, .nil, e => by simp at e
 | _, _, 0, _, .cons r _, e => by simp at e; subst e; exact ⟨_, rfl, r⟩
 | _, _, i + 1, d, .cons _ t, e => by
   obtain ⟨v, h1, h2⟩ := IsAll.get (i := i) (d := d) t (by simpa using e)
   exact ⟨v, by simpa using h1, h2⟩
theorem IsAll.append : ∀ {vs ds ws es}, IsAll K F H vs ds → IsAll K F H ws es → IsAll K F H (vs ++ ws) (ds ++ es)
 | _, _, _, _, .nil, s => s
 | _, _, _, _, .cons r t, s => .cons r (IsAll.append t s)
theorem IsAll.snoc {vs ds v d} (h : IsAll K F H vs ds) (r : Is K F H v d) : IsAll K F H (vs ++ [v]) (ds ++ [d]) := h.append (.cons r .nil)
theorem IsAll.take : ∀ {vs ds} (n : Nat), IsAll K F H vs ds → IsAll K F H (vs.take n) (ds.take n)
 | _, _, 0, _ => .nil
 | _, _, _ + 1, .nil => .nil
 | _, _, n + 1, .cons r t => .cons r (IsAll.take n t)
theorem IsAll.drop : ∀ {vs ds} (n : Nat), IsAll K F H vs ds → IsAll K F H (vs.drop n) (ds.drop n)
 | _, _, 0, r => r
 | _, _, _ + 1, .nil => .nil
 | _, _, n + 1, .cons _ t => IsAll.drop n t
end
def SameB (M : Addr → Prop) (H H' : Hp) : Prop := ∀ a o, H a = some o → ¬ M a → H' a = some o
theorem SameB.refl (M : Addr → Prop) (H : Hp) : SameB M H H := fun _ _ h _ => h
theorem SameB.trans {M : Addr → Prop} {H H1 H2 : Hp} (a : SameB M H H1) (b : SameB M H1 H2) : SameB M H H2 := fun c o h n => b c o (a c o h n) n
theorem SameB.of {M : Addr → Prop} {H H' : Hp} (s : Same H H') : SameB M H H' := fun a o h _ => s a o h
theorem SameB.free {M : Addr → Prop} {H H' : Hp} (e : SameB M H H') {l : Addr} (hm : ¬ M l) (h : H' l = Option.none) : H l = Option.none := by
 cases q : H l with
 | none => rfl
 | some o => rw [e l o q hm] at h; cases h
def TupStay (H H' : Hp) : Prop := ∀ a u, (∃ xs, u = HO.tup xs ∨ ∃ o, u = HO.frz o (.tup xs)) → H a = some u → H' a = some u
theorem SqT.stay {K : PySem.W.Frag} {H H' : Hp} {a : Addr} {xs : List V} (e : TupStay H H') (h : SqT K H a xs) : SqT K H' a xs := by
 rcases h with (h | ⟨o, h⟩) | h
 · exact .inl (.inl (e _ _ ⟨xs, .inl rfl⟩ h))
 · exact .inl (.inr ⟨o, e _ _ ⟨xs, .inr ⟨o, rfl⟩⟩ h⟩)
 · exact .inr h
structure Ob where
 M : Addr → Prop
 P : Hp → Prop
 v : V
structure Ob.Ok (O : Ob) : Prop where
 loc : ∀ H H', (∀ a, O.M a → H' a = H a) → O.P H → O.P H'
 mutb : ∀ H a o, O.P H → H a = some o → O.M a → (∀ xs, o ≠ .tup xs) ∧ ∀ q u, o ≠ .frz q u
 here : ∀ H a, O.P H → O.M a → ∃ o, H a = some o
theorem Ob.Ok.grow {O : Ob} (ok : O.Ok) (H H' : Hp) (s : Same H H') (p : O.P H) : O.P H' := ok.loc H H' (fun a m => by
 obtain ⟨o, e⟩ := ok.here H a p m
 rw [e, s a o e]) p
def Ob.plus (O : Ob) (D : Addr) (u : HO) : Ob := ⟨fun a => O.M a ∨ a = D, fun H => O.P H ∧ H D = some u, O.v⟩
theorem Ob.Ok.plus {O : Ob} (ok : O.Ok) (D : Addr) (xs : List V) : (O.plus D (.lst xs)).Ok :=
 ⟨fun H H' e p => ⟨ok.loc H H' (fun a m => e a (.inl m)) p.1, (e D (.inr rfl)).trans p.2⟩,
  fun H a o p e m => by
   rcases m with m | rfl
   · exact ok.mutb H a o p.1 e m
   · rw [p.2] at e; cases e; exact ⟨fun _ h => (by cases h), fun _ _ h => (by cases h)⟩,
  fun H a p m => by
   rcases m with m | rfl
   · exact ok.here H a p.1 m
   · exact ⟨_, p.2⟩⟩
structure Stp (O : Ob) (H H' : Hp) : Prop where
 s : SameB O.M H H'
 p : O.P H → O.P H'
 t : TupStay H H'
theorem Stp.refl (O : Ob) (H : Hp) : Stp O H H := ⟨.refl _ _, fun h => h, fun _ _ _ h => h⟩
theorem Stp.trans {O : Ob} {H H1 H2 : Hp} (a : Stp O H H1) (b : Stp O H1 H2) : Stp O H H2 := ⟨a.s.trans b.s, fun h => b.p (a.p h), fun c u hu h => b.t c u hu (a.t c u hu h)⟩
theorem Stp.same {O : Ob} (ok : O.Ok) {H H' : Hp} (s : Same H H') : Stp O H H' := ⟨.of s, ok.grow H H' s, fun a u _ h => s a u h⟩
theorem same_new {H : Hp} {p : Addr} (h : H p = none) (o : HO) : Same H (upd H p o) := fun b u q => by rw [upd_ne (ne_of_none q h)]; exact q
theorem Stp.new {O : Ob} (ok : O.Ok) {H : Hp} {p : Addr} (h : H p = none) (o : HO) : Stp O H (upd H p o) := .same ok (same_new h o)
section
variable {K : PySem.W.Frag} {O : Ob} {F F' : Addr → Prop} {H H' : Hp} {v : V} {d : PyData}
theorem Is.stp (s : Stp O H H') (hF : ∀ a, F a → F' a) (hM : ∀ a, F a → ¬ O.M a) (h : Is K F H v d) : Is K F' H' v d :=
 h.to (fun a xs f q => ⟨hF a f, s.s a _ q (hM a f)⟩) fun a xs q => SqT.stay (h := q) s.t
theorem IsAll.stp {vs : List V} {ds : List PyData} (s : Stp O H H') (hF : ∀ a, F a → F' a) (hM : ∀ a, F a → ¬ O.M a) (h : IsAll K F H vs ds) : IsAll K F' H' vs ds :=
 h.to (fun a xs f q => ⟨hF a f, s.s a _ q (hM a f)⟩) fun a xs q => SqT.stay (h := q) s.t
theorem Is.weak (h : Is K F H v d) (hF : ∀ a, F a → F' a) : Is K F' H v d := h.to (fun a xs f q => ⟨hF a f, q⟩) fun a xs q => q
theorem IsAll.weak {vs : List V} {ds : List PyData} (h : IsAll K F H vs ds) (hF : ∀ a, F a → F' a) : IsAll K F' H vs ds := h.to (fun a xs f q => ⟨hF a f, q⟩) fun a xs q => q
end
mutual
def flat : PyData → Bool
 | .none => true
 | .bool _ => true
 | .int _ => true
 | .str _ => true
 | .tuple ds => flats ds
 | _ => false
def flats : List PyData → Bool
 | [] => true
 | d :: ds => flat d && flats ds
end
theorem flats_iff : ∀ {ds : List PyData}, flats ds = true ↔ ∀ d ∈ ds, flat d = true
 | [] => by simp [flats]
 | d :: ds => by rw [flats, Bool.and_eq_true, flats_iff]; simp
mutual
theorem Is.flat {K : PySem.W.Frag} {F F' : Addr → Prop} {H H' : Hp} (t : TupStay H H') : ∀ {v d}, Is K F H v d → L3.flat d = true → Is K F' H' v d
 | _, _, .none, _ => .none
 | _, _, .bool b, _ => .bool b
 | _, _, .int i, _ => .int i
 | _, _, .str x, _ => .str x
 | _, _, .list _ _ _, h => by simp [L3.flat] at h
 | _, _, .tuple q r, h => .tuple (SqT.stay t q) (IsAll.flats t r (by simpa [L3.flat] using h))
theorem IsAll.flats {K : PySem.W.Frag} {F F' : Addr → Prop} {H H' : Hp} (t : TupStay H H') : ∀ {vs ds}, IsAll K F H vs ds → L3.flats ds = true → IsAll K F' H' vs ds
 | _, _, .nil, _ => .nil
 | _, _, .cons r s, h => by
   rw [L3.flats, Bool.and_eq_true] at h
   exact .cons (Is.flat t r h.1) (IsAll.flats t s h.2)
end
theorem TupStay.refl (H : Hp) : TupStay H H := fun _ _ _ h => h
section
variable {X : Cx} {pins : List (Addr × Obj)} {σ : St} {H : Hp} {s : Shared} {F : Addr → Prop}
mutual
theorem Is.reads (I : Inv X pins σ H s) : ∀ {v d} {u : Value}, Is X.K F H v d → RelV v u → ∃ as, Reads s.heap u d as
 | _, _, _, .none, r => by cases r; exact ⟨_, .none⟩
 | _, _, _, .bool b, r => by cases r; exact ⟨_, .bool b⟩
 | _, _, _, .int i, r => by obtain ⟨t, rfl⟩ := r; exact ⟨_, .int i t⟩
 | _, _, _, .str x, r => by obtain ⟨t, rfl⟩ := r; exact ⟨_, .str x t⟩
 | _, _, _, .list f q rs, r => by
   cases r
   obtain ⟨its, rv, ⟨o, n, e, c, _, dt⟩, _⟩ := I.list (.of q)
   obtain ⟨as, ra⟩ := IsAll.reads I rs rv
   exact ⟨_, .list e c dt (by simpa using ra)⟩
 | _, _, _, .tuple q rs, r => by
   cases r
   obtain ⟨its, rv, ⟨o, e, c, n, dt⟩, _⟩ := I.tuple q
   obtain ⟨as, ra⟩ := IsAll.reads I rs rv
   exact ⟨_, .tuple e c dt (by simpa using ra)⟩
theorem IsAll.reads (I : Inv X pins σ H s) : ∀ {vs ds} {us : List Value}, IsAll X.K F H vs ds → Vals vs us → ∃ as, ReadsAll s.heap us ds as
 | _, _, _, .nil, r => by cases r; exact ⟨_, .nil⟩
 | _, _, _, .cons h t, r => by
   cases r with
   | cons r1 r2 =>
     obtain ⟨as, ra⟩ := Is.reads I h r1
     obtain ⟨bs, rb⟩ := IsAll.reads I t r2
     exact ⟨_, .cons ra rb⟩
end
end
def IsS (K : PySem.W.Frag) (F : Addr → Prop) (H : Hp) (v : V) (n : Nat) : Prop := ∃ a xs, v = .ref a ∧ xs.length = n ∧ ((F a ∧ Rd H a (.lst xs)) ∨ ∀ H', SqL K H' a xs)
theorem IsS.to {K : PySem.W.Frag} {F F' : Addr → Prop} {H H' : Hp} {v : V} {n : Nat} (hL : ∀ a u, F a → H a = some u → F' a ∧ H' a = some u) (h : IsS K F H v n) : IsS K F' H' v n := by
 obtain ⟨a, xs, e, l, ⟨f, q | ⟨o, q⟩⟩ | q⟩ := h
 · exact ⟨a, xs, e, l, .inl ⟨(hL a _ f q).1, .inl (hL a _ f q).2⟩⟩
 · exact ⟨a, xs, e, l, .inl ⟨(hL a _ f q).1, .inr ⟨o, (hL a _ f q).2⟩⟩⟩
 · exact ⟨a, xs, e, l, .inr q⟩
def DkAt (H : Hp) (v : V) (a : Addr) (ks : List Str) : Prop := v = .ref a ∧ ∃ kvs, H a = some (.dK kvs) ∧ kvs.map (·.1) = ks.map Sum.inr
theorem DkAt.to {H H' : Hp} {v : V} {a : Addr} {ks : List Str} (h : DkAt H v a ks) (e : ∀ u, H a = some u → H' a = some u) : DkAt H' v a ks := let ⟨h1, kvs, h2, h3⟩ := h; ⟨h1, kvs, e _ h2, h3⟩
inductive R where
 | o (d : PyData)
 | n (ds : List PyData)
def R.d : R → PyData
 | .o d => d
 | .n ds => .list ds
structure Thg where
 R : PySem.W.Frag → (Addr → Prop) → (Addr → Prop) → Hp → V → Prop
 to : ∀ {K : PySem.W.Frag} {F F' W W' : Addr → Prop} {H H' : Hp} {v : V}, (∀ a u, F a → H a = some u → F' a ∧ H' a = some u) → (∀ a u, W a → H a = some u → W' a ∧ H' a = some u) → TupStay H H' → R K F W H v → R K F' W' H' v
inductive DV where
 | im (d : PyData)
 | own (ds : List PyData)
 | ob
 | scr (n : Nat)
 | dct (ks : List Str)
   | gen (f : Addr → List V → HO) (ds : List PyData)
   | rd (f : Addr → List V → HO) (ds : List PyData)
   | exc (C : Addr) (ns : List Str) (ds : List PyData)
   | thg (T : Thg)
   | thr (T : Thg)
abbrev DSt := List (Option DV)
abbrev DE := DSt → (R → Prop) → Prop
abbrev DT := DSt → (Bool → Prop) → Prop
abbrev DA := DSt → (List PyData → Prop) → Prop
def unM (O : Ob) : Addr → Prop := fun a => ¬ O.M a
def ExAt (F : Addr → Prop) (H : Hp) (v : V) (C : Addr) (ns : List Str) (xs : List V) : Prop := ∃ a dx, v = .ref a ∧ F a ∧ F dx ∧ H a = some (XR a C dx) ∧ H dx = some (.xd (ns.zip xs)) ∧ xs.length = ns.length
theorem ExAt.to {F F' : Addr → Prop} {H H' : Hp} {v : V} {C : Addr} {ns : List Str} {xs : List V} (hL : ∀ a u, F a → H a = some u → F' a ∧ H' a = some u) (h : ExAt F H v C ns xs) : ExAt F' H' v C ns xs := by
 obtain ⟨a, dx, e, f1, f2, q1, q2, l⟩ := h
 exact ⟨a, dx, e, (hL a _ f1 q1).1, (hL dx _ f2 q2).1, (hL a _ f1 q1).2, (hL dx _ f2 q2).2, l⟩
def SeenV (K : PySem.W.Frag) (O : Ob) (H : Hp) (v : V) : DV → Prop
 | .im d => Is K (unM O) H v d
 | .own ds => Is K (unM O) H v (.list ds)
 | .ob => v = O.v
 | .scr n => IsS K (unM O) H v n
 | .dct ks => ∃ a, ¬ O.M a ∧ DkAt H v a ks
 | .gen f ds => ∃ a xs, v = .ref a ∧ ¬ O.M a ∧ H a = some (f a xs) ∧ IsAll K (unM O) H xs ds
 | .rd f ds => ∃ a xs, v = .ref a ∧ ¬ O.M a ∧ H a = some (f a xs) ∧ IsAll K (unM O) H xs ds
 | .exc C ns ds => ∃ xs, ExAt (unM O) H v C ns xs ∧ IsAll K (unM O) H xs ds
 | .thg T => ∃ W : Addr → Prop, (∀ a, W a → ¬ O.M a ∧ ∃ o, H a = some o) ∧ T.R K (unM O) W H v
 | .thr T => ∃ W : Addr → Prop, (∀ a, W a → ¬ O.M a ∧ ∃ o, H a = some o) ∧ T.R K (unM O) W H v
structure Seen (K : PySem.W.Frag) (O : Ob) (H : Hp) (σ : St) (ρ : DSt) : Prop where
 ok : O.Ok
 p : O.P H
 at_ : ∀ (i : Nat) r, ρ[i]? = some (some r) → ∃ v, σ[i]? = some (some v) ∧ SeenV K O H v r
 len : ρ.length = σ.length
theorem SeenV.stp {K : PySem.W.Frag} {O : Ob} {H H' : Hp} {v : V} {r : DV} (s : Stp O H H') (h : SeenV K O H v r) : SeenV K O H' v r := by
 cases r with
 | im d => exact Is.stp s (fun _ f => f) (fun _ f => f) h
 | own ds => exact Is.stp s (fun _ f => f) (fun _ f => f) h
 | ob => exact h
 | scr n => exact IsS.to (fun a u f q => ⟨f, s.s a u q f⟩) h
 | dct ks => obtain ⟨a, n, h⟩ := h; exact ⟨a, n, h.to fun u q => s.s a u q n⟩
 | gen f ds => obtain ⟨a, xs, e, n, q, z⟩ := h; exact ⟨a, xs, e, n, s.s a _ q n, IsAll.stp s (fun _ f => f) (fun _ f => f) z⟩
 | rd f ds => obtain ⟨a, xs, e, n, q, z⟩ := h; exact ⟨a, xs, e, n, s.s a _ q n, IsAll.stp s (fun _ f => f) (fun _ f => f) z⟩
 | exc C ns ds => obtain ⟨xs, e, z⟩ := h; exact ⟨xs, e.to fun a u f q => ⟨f, s.s a u q f⟩, IsAll.stp s (fun _ f => f) (fun _ f => f) z⟩
 | thg T => obtain ⟨W, hw, z⟩ := h; exact ⟨W, fun a w => ⟨(hw a w).1, let ⟨o, e⟩ := (hw a w).2; ⟨o, s.s a o e (hw a w).1⟩⟩, T.to (fun a u f q => ⟨f, s.s a u q f⟩) (fun a u w q => ⟨w, s.s a u q (hw a w).1⟩) s.t z⟩
 | thr T => obtain ⟨W, hw, z⟩ := h; exact ⟨W, fun a w => ⟨(hw a w).1, let ⟨o, e⟩ := (hw a w).2; ⟨o, s.s a o e (hw a w).1⟩⟩, T.to (fun a u f q => ⟨f, s.s a u q f⟩) (fun a u w q => ⟨w, s.s a u q (hw a w).1⟩) s.t z⟩
theorem Seen.stp {K : PySem.W.Frag} {O : Ob} {H H' : Hp} {σ : St} {ρ : DSt} (S : Seen K O H σ ρ) (s : Stp O H H') : Seen K O H' σ ρ :=
 ⟨S.ok, s.p S.p, fun i r e => let ⟨v, h1, h2⟩ := S.at_ i r e; ⟨v, h1, h2.stp s⟩, S.len⟩
def Out (K : PySem.W.Frag) (O : Ob) (H H' : Hp) (v : V) : R → Prop
 | .o d => Is K (unM O) H' v d
 | .n ds => ∃ a xs, v = .ref a ∧ H a = none ∧ H' a = some (.lst xs) ∧ IsAll K (unM O) H' xs ds
theorem Out.is {K : PySem.W.Frag} {O : Ob} {H H' : Hp} {v : V} {r : R} (ok : O.Ok) (p : O.P H) (h : Out K O H H' v r) : Is K (unM O) H' v r.d := by
 cases r with
 | o d => exact h
 | n ds =>
   obtain ⟨a, xs, rfl, hn, e, q⟩ := h
   exact .list (fun m => by obtain ⟨o, z⟩ := ok.here H a p m; rw [hn] at z; cases z) e q
def ED (K : PySem.W.Frag) (O : Ob) (t : TE) (f : DE) : Prop :=
 ∀ (σ : St) (H : Hp) (ρ : DSt) (Q : VK) (Qd : R → Prop), Seen K O H σ ρ → f ρ Qd → (∀ v H' r, Stp O H H' → Out K O H H' v r → Qd r → Q v H') → t σ H Q
def TD (K : PySem.W.Frag) (O : Ob) (t : TT) (f : DT) : Prop :=
 ∀ (σ : St) (H : Hp) (ρ : DSt) (Q : Bool → Hp → Prop) (Qd : Bool → Prop), Seen K O H σ ρ → f ρ Qd → (∀ b H', Stp O H H' → Qd b → Q b H') → t σ H Q
def AD (K : PySem.W.Frag) (O : Ob) (t : TA) (f : DA) : Prop :=
 ∀ (σ : St) (H : Hp) (ρ : DSt) (Q : List V → Hp → Prop) (Qd : List PyData → Prop), Seen K O H σ ρ → f ρ Qd → (∀ vs H' ds, Stp O H H' → IsAll K (unM O) H' vs ds → Qd ds → Q vs H') → t σ H Q
section
variable {K : PySem.W.Frag} {O : Ob}
def cD (d : PyData) : DE := fun _ Q => Q (.o d)
theorem ed_int {i : Int} : ED K O (tC (.int i)) (cD (.int i)) := fun σ H ρ Q Qd S h k => k _ H (.o (.int i)) (.refl _ _) (Is.int i) h
theorem ed_str {x : Str} : ED K O (tC (.str x)) (cD (.str x)) := fun σ H ρ Q Qd S h k => k _ H (.o (.str x)) (.refl _ _) (Is.str x) h
theorem ed_bl {b : Bool} : ED K O (tC (.bl b)) (cD (.bool b)) := fun σ H ρ Q Qd S h k => k _ H (.o (.bool b)) (.refl _ _) (Is.bool b) h
theorem ed_non : ED K O (tC .non) (cD .none) := fun σ H ρ Q Qd S h k => k _ H (.o .none) (.refl _ _) Is.none h
def seeR : DV → Option PyData
 | .im d => some d
 | .own ds => some (.list ds)
 | .ob => none
 | .scr _ => none
 | .dct _ => none
 | .gen _ _ => none
 | .rd _ _ => none
 | .exc _ _ _ => none
 | .thg _ => none
 | .thr _ => none
def vD (i : Nat) : DE := fun ρ Q => ∃ r d, ρ[i]? = some (some r) ∧ seeR r = some d ∧ Q (.o d)
theorem ed_var {i : Nat} : ED K O (tVar i) (vD i) := fun σ H ρ Q Qd S h k => by
 obtain ⟨r, d, e, e2, h⟩ := h
 obtain ⟨v, hv, sv⟩ := S.at_ i r e
 refine ⟨v, hv, k _ H _ (.refl _ _) ?_ h⟩
 cases r with
 | im d' => cases e2; exact sv
 | own ds => cases e2; exact sv
 | ob => cases e2
 | scr n => cases e2
 | dct ks => cases e2
 | gen f ds => cases e2
 | rd f ds => cases e2
 | exc C ns ds => cases e2
 | thg T => cases e2
 | thr T => cases e2
def OpD (K : PySem.W.Frag) (O : Ob) (r : R2) (f : PyData → PyData → (R → Prop) → Prop) : Prop :=
 ∀ (H : Hp) (x y : V) (d e : PyData) (Q : VK) (Qd : R → Prop), O.Ok → O.P H → Is K (unM O) H x d → Is K (unM O) H y e → f d e Qd → (∀ v H' r, Stp O H H' → Out K O H H' v r → Qd r → Q v H') → r x y H Q
theorem Out.ahead {H H1 H2 : Hp} {v : V} {r : R} (ok : O.Ok) (p : O.P H) (s1 : Stp O H H1) (h : Out K O H1 H2 v r) : Out K O H H2 v r := by
 cases r with
 | o d => exact h
 | n ds =>
   obtain ⟨a, xs, rfl, hn, e, q⟩ := h
   have m : ¬ O.M a := fun m => by obtain ⟨o, z⟩ := ok.here H1 a (s1.p p) m; rw [hn] at z; cases z
   exact ⟨a, xs, rfl, s1.s.free m hn, e, q⟩
def opDE (f : PyData → PyData → (R → Prop) → Prop) (fa fb : DE) : DE := fun ρ Q => fa ρ fun a => fb ρ fun b => f a.d b.d Q
theorem ed_op {r : R2} {ta tb : TE} {f : PyData → PyData → (R → Prop) → Prop} {fa fb : DE} (hr : OpD K O r f) (ha : ED K O ta fa) (hb : ED K O tb fb) : ED K O (tOp r ta tb) (opDE f fa fb) := fun σ H ρ Q Qd S h k => by
 refine ha σ H ρ _ _ S h fun v H1 a s1 o1 h1 => ?_
 refine hb σ H1 ρ _ _ (S.stp s1) h1 fun w H2 b s2 o2 h2 => ?_
 have p1 := s1.p S.p
 refine hr H2 v w a.d b.d _ _ S.ok (s2.p p1) (Is.stp s2 (fun _ f => f) (fun _ f => f) (o1.is S.ok S.p)) (o2.is S.ok p1) h2 fun z H3 c s3 o3 h3 => ?_
 exact k z H3 c ((s1.trans s2).trans s3) (Out.ahead S.ok S.p (s1.trans s2) o3) h3
def fn2 (F : PyData → PyData → Option R) : PyData → PyData → (R → Prop) → Prop := fun a b Q => ∃ r, F a b = some r ∧ Q r
def bD (f : DE) : DT := fun ρ Q => f ρ fun r => ∃ b, r.d = .bool b ∧ Q b
theorem td_val {t : TE} {f : DE} (h : ED K O t f) : TD K O (tTest t) (bD f) := fun σ H ρ Q Qd S hf k => by
 refine h σ H ρ _ _ S hf fun v H1 r s1 o1 ⟨b, e, q⟩ => ?_
 have i := o1.is S.ok S.p
 rw [e] at i
 cases i
 exact ⟨b, rfl, k b H1 s1 q⟩
theorem td_valB {t : TE} {f : DE} (h : ED K O t f) : TD K O (tB t) (bD f) := fun σ H ρ Q Qd S hf k => by
 refine h σ H ρ _ _ S hf fun v H1 r s1 o1 ⟨b, e, q⟩ => ?_
 have i := o1.is S.ok S.p
 rw [e] at i
 cases i
 exact ⟨b, rfl, k b H1 s1 q⟩
def andT (f g : DT) : DT := fun ρ Q => f ρ fun b => if b = true then g ρ Q else Q false
def orT (f g : DT) : DT := fun ρ Q => f ρ fun b => if b = true then Q true else g ρ Q
theorem td_and {t u : TT} {f g : DT} (h : TD K O t f) (h' : TD K O u g) : TD K O (tAnd t u) (andT f g) := fun σ H ρ Q Qd S hf k => by
 refine h σ H ρ _ _ S hf fun b H1 s1 q => ?_
 cases b with
 | true => exact h' σ H1 ρ _ _ (S.stp s1) q fun c H2 s2 q2 => k c H2 (s1.trans s2) q2
 | false => exact k false H1 s1 q
theorem td_or {t u : TT} {f g : DT} (h : TD K O t f) (h' : TD K O u g) : TD K O (tOr t u) (orT f g) := fun σ H ρ Q Qd S hf k => by
 refine h σ H ρ _ _ S hf fun b H1 s1 q => ?_
 cases b with
 | false => exact h' σ H1 ρ _ _ (S.stp s1) q fun c H2 s2 q2 => k c H2 (s1.trans s2) q2
 | true => exact k true H1 s1 q
def ifD (c : DT) (f g : DE) : DE := fun ρ Q => c ρ fun b => if b = true then f ρ Q else g ρ Q
theorem ed_if {c : TT} {t u : TE} {fc : DT} {f g : DE} (hc : TD K O c fc) (h : ED K O t f) (h' : ED K O u g) : ED K O (tIf c t u) (ifD fc f g) := fun σ H ρ Q Qd S hf k => by
 refine hc σ H ρ _ _ S hf fun b H1 s1 q => ?_
 cases b with
 | true => exact h σ H1 ρ _ _ (S.stp s1) q fun v H2 r s2 o2 q2 => k v H2 r (s1.trans s2) (o2.ahead S.ok S.p s1) q2
 | false => exact h' σ H1 ρ _ _ (S.stp s1) q fun v H2 r s2 o2 q2 => k v H2 r (s1.trans s2) (o2.ahead S.ok S.p s1) q2
def aNil : DA := fun _ Q => Q []
def aCons (f : DE) (g : DA) : DA := fun ρ Q => f ρ fun r => g ρ fun ds => Q (r.d :: ds)
theorem ad_nil : AD K O tNil aNil := fun σ H ρ Q Qd S h k => k [] H [] (.refl _ _) .nil h
theorem ad_cons {t : TE} {u : TA} {f : DE} {g : DA} (h : ED K O t f) (h' : AD K O u g) : AD K O (tCons t u) (aCons f g) := fun σ H ρ Q Qd S hf k => by
 refine h σ H ρ _ _ S hf fun v H1 r s1 o1 q => ?_
 refine h' σ H1 ρ _ _ (S.stp s1) q fun vs H2 ds s2 o2 q2 => ?_
 exact k (v :: vs) H2 (r.d :: ds) (s1.trans s2) (.cons (Is.stp s2 (fun _ f => f) (fun _ f => f) (o1.is S.ok S.p)) o2) q2
def tupD (g : DA) : DE := fun ρ Q => g ρ fun ds => ds.length ≤ sizeLine ∧ Q (.o (.tuple ds))
def lstD (g : DA) : DE := fun ρ Q => g ρ fun ds => ds.length ≤ sizeLine ∧ Q (.n ds)
theorem ed_tup {u : TA} {g : DA} (h : AD K O u g) : ED K O (tTup u) (tupD g) := fun σ H ρ Q Qd S hf k => by
 refine h σ H ρ _ _ S hf fun vs H1 ds s1 o1 ⟨z, q⟩ => ⟨by rw [o1.length]; exact z, fun p hp => ?_⟩
 have s2 : Stp O H1 (upd H1 p (.tup vs)) := .new S.ok hp _
 exact k _ _ (.o (.tuple ds)) (s1.trans s2) (.tuple (.of upd_same) (o1.stp s2 (fun _ f => f) (fun _ f => f))) q
theorem ed_lst {u : TA} {g : DA} (h : AD K O u g) : ED K O (tLst u) (lstD g) := fun σ H ρ Q Qd S hf k => by
 refine h σ H ρ _ _ S hf fun vs H1 ds s1 o1 ⟨z, q⟩ => ⟨by rw [o1.length]; exact z, fun p hp => ?_⟩
 have s2 : Stp O H1 (upd H1 p (.lst vs)) := .new S.ok hp _
 have m : ¬ O.M p := fun m => by obtain ⟨o, z⟩ := S.ok.here H1 p (s1.p S.p) m; rw [hp] at z; cases z
 exact k _ _ (.n ds) (s1.trans s2) ⟨p, vs, rfl, s1.s.free m hp, upd_same, o1.stp s2 (fun _ f => f) (fun _ f => f)⟩ q
def CallD (K : PySem.W.Frag) (O : Ob) (r : List V → Hp → VK → Prop) (f : List PyData → (R → Prop) → Prop) : Prop :=
 ∀ (H : Hp) (vs : List V) (ds : List PyData) (Q : VK) (Qd : R → Prop), O.Ok → O.P H → IsAll K (unM O) H vs ds → f ds Qd → (∀ v H' r, Stp O H H' → Out K O H H' v r → Qd r → Q v H') → r vs H Q
def callDE (f : List PyData → (R → Prop) → Prop) (g : DA) : DE := fun ρ Q => g ρ fun ds => f ds Q
theorem ed_callB {r : List V → Hp → VK → Prop} {u : TA} {f : List PyData → (R → Prop) → Prop} {g : DA} (hr : CallD K O r f) (h : AD K O u g) : ED K O (tCB r u) (callDE f g) := fun σ H ρ Q Qd S hf k => by
 refine h σ H ρ _ _ S hf fun vs H1 ds s1 o1 q => ?_
 exact hr H1 vs ds _ _ S.ok (s1.p S.p) o1 q fun v H2 r s2 o2 q2 => k v H2 r (s1.trans s2) (o2.ahead S.ok S.p s1) q2
def fn1 (F : List PyData → Option R) : List PyData → (R → Prop) → Prop := fun ds Q => ∃ r, F ds = some r ∧ Q r
end
end L3
namespace L3
open PySem PySem.Spec
open PyProof.Rows hiding St
open L2
abbrev DG := PyData → DSt → (DSt → Prop) → Prop
def gN (i : Nat) : DG := fun d ρ Q => Q (ρ.set i (some (.im d)))
def GS (K : PySem.W.Frag) (O : Ob) (t : TG) (g : DG) : Prop :=
 ∀ (σ : St) (H : Hp) (ρ : DSt) (v : V) (d : PyData) (Q : St → Hp → Prop) (Qd : DSt → Prop), Seen K O H σ ρ → Is K (unM O) H v d → g d ρ Qd → (∀ σ' ρ', Seen K O H σ' ρ' → Qd ρ' → Q σ' H) → t v σ H Q
section
variable {K : PySem.W.Frag} {O : Ob}
theorem Seen.set {H : Hp} {σ : St} {ρ : DSt} {i : Nat} {v : V} {r : DV} (S : Seen K O H σ ρ) (h : SeenV K O H v r) : Seen K O H (σ.set i (some v)) (ρ.set i (some r)) := by
 have hl := S.len
 refine ⟨S.ok, S.p, fun j r' e => ?_, by rw [List.length_set, List.length_set]; exact S.len⟩
 by_cases hj : i = j
 · subst hj
   have hi : i < ρ.length := by
     rcases Nat.lt_or_ge i ρ.length with z | z
     · exact z
     · rw [List.getElem?_eq_none (by simpa using z)] at e; cases e
   rw [List.getElem?_set_self hi] at e
   cases e
   exact ⟨v, List.getElem?_set_self (by omega), h⟩
 · rw [List.getElem?_set_ne hj] at e
   obtain ⟨w, h1, h2⟩ := S.at_ j r' e
   exact ⟨w, by rw [List.getElem?_set_ne hj]; exact h1, h2⟩
theorem gs_name {i : Nat} : GS K O (gName i) (gN i) := fun σ H ρ v d Q Qd S i h k => k _ _ (S.set (r := .im d) i) h
structure Walk (K : PySem.W.Frag) (O : Ob) (H H1 : Hp) (J : It) (ds : List PyData) (B : Addr → Prop) : Prop where
 st : Stp O H H1
 hb : ∀ a, B a → ¬ O.M a ∧ ∃ o, H1 a = some o
 stop : ∀ H2 i, (∀ a o, B a → H1 a = some o → H2 a = some o) → TupStay H1 H2 → ds.length ≤ i → J.stop i H2
 item : ∀ H2 i d, (∀ a o, B a → H1 a = some o → H2 a = some o) → TupStay H1 H2 → ds[i]? = some d → (flat d = true ∨ ∀ a o, H1 a = some o → ¬ O.M a → H2 a = some o) →
   J.go i H2 ∧ ∀ x H3, J.yld i H2 x H3 → Same H2 H3 ∧ Is K (fun a => ¬ O.M a ∧ (flat d = true ∨ ∃ o, H1 a = some o)) H3 x d
abbrev DI := DSt → (Bool → List PyData → Prop) → Prop
def SrcS (K : PySem.W.Frag) (O : Ob) (wi : TI) (f : DI) : Prop :=
 ∀ (σ : St) (H : Hp) (ρ : DSt) (R : It → Hp → Prop) (Qd : Bool → List PyData → Prop), Seen K O H σ ρ → f ρ Qd →
   (∀ (J : It) (H1 : Hp) (ds : List PyData) (B : Addr → Prop) (fr : Bool), Walk K O H H1 J ds B → (fr = true → ∀ a, B a → H a = none) → Qd fr ds → R J H1) → wi σ H R
end
def compGo (h : Nat) (g : DG) (ft : DT) (fe : DE) (ρ : DSt) (Q : List PyData → Prop) : List PyData → List PyData → Prop
 | [], acc => Q acc
 | d :: ds, acc => g d (List.replicate h none ++ ρ) fun ρ2 => ft ρ2 fun b => if b = true then fe ρ2 fun r => acc.length < sizeLine ∧ compGo h g ft fe ρ Q ds (acc ++ [r.d]) else compGo h g ft fe ρ Q ds acc
def compD (h : Nat) (f : DI) (g : DG) (ft : DT) (fe : DE) : DE := fun ρ Q => f ρ fun _ ds => compGo h g ft fe ρ (fun es => Q (.n es)) ds []
section
variable {K : PySem.W.Frag} {O : Ob}
theorem seen_pad {H : Hp} {σ : St} {ρ : DSt} (S : Seen K O H σ ρ) (h : Nat) : Seen K O H (List.replicate h none ++ σ) (List.replicate h none ++ ρ) := by
 refine ⟨S.ok, S.p, fun i r e => ?_, by rw [List.length_append, List.length_append, List.length_replicate, List.length_replicate, S.len]⟩
 by_cases hi : i < h
 · rw [List.getElem?_append_left (by simpa using hi), List.getElem?_replicate, if_pos hi] at e
   cases e
 · rw [List.getElem?_append_right (by simpa using Nat.le_of_not_lt hi), List.length_replicate] at e
   obtain ⟨v, h1, h2⟩ := S.at_ _ r e
   exact ⟨v, by rw [List.getElem?_append_right (by simpa using Nat.le_of_not_lt hi), List.length_replicate]; exact h1, h2⟩
theorem seen_plus {H : Hp} {σ : St} {ρ : DSt} {D : Addr} {xs : List V} (S : Seen K O H σ ρ) (hD : H D = none) : Seen K (O.plus D (.lst xs)) (upd H D (.lst xs)) σ ρ := by
 have gr : Same H (upd H D (.lst xs)) := same_new hD _
 refine ⟨S.ok.plus D xs, ⟨S.ok.grow _ _ gr S.p, upd_same⟩, fun i r e => ?_, S.len⟩
 obtain ⟨v, h1, h2⟩ := S.at_ i r e
 have go : ∀ d, Is K (unM O) H v d → Is K (unM (O.plus D (.lst xs))) (upd H D (.lst xs)) v d := fun d z =>
   z.to (fun a ys f q => ⟨fun m => (by
     rcases m with m | rfl
     · exact f m
     · rw [hD] at q; cases q), gr _ _ q⟩) fun a ys q => SqT.stay (h := q) fun b u _ hb => gr b u hb
 refine ⟨v, h1, ?_⟩
 cases r with
 | im d => exact go d h2
 | own ds => exact go _ h2
 | ob => exact h2
 | scr n => exact IsS.to (fun a u f q => ⟨fun m => (by
     rcases m with m | rfl
     · exact f m
     · rw [hD] at q; cases q), gr _ _ q⟩) h2
 | dct ks =>
   obtain ⟨a, n, h2⟩ := h2
   refine ⟨a, fun m => ?_, h2.to fun u q => gr _ _ q⟩
   rcases m with m | rfl
   · exact n m
   · obtain ⟨_, kvs, q, _⟩ := h2
     rw [hD] at q
     cases q
 | gen f ds =>
   obtain ⟨a, ys, e, n, q, z⟩ := h2
   refine ⟨a, ys, e, fun m => ?_, gr _ _ q, z.to (fun a ys f q => ⟨fun m => (by
     rcases m with m | rfl
     · exact f m
     · rw [hD] at q; cases q), gr _ _ q⟩) fun a ys q => SqT.stay (h := q) fun b u _ hb => gr b u hb⟩
   rcases m with m | rfl
   · exact n m
   · rw [hD] at q; cases q
 | rd f ds =>
   obtain ⟨a, ys, e, n, q, z⟩ := h2
   refine ⟨a, ys, e, fun m => ?_, gr _ _ q, z.to (fun a ys f q => ⟨fun m => (by
     rcases m with m | rfl
     · exact f m
     · rw [hD] at q; cases q), gr _ _ q⟩) fun a ys q => SqT.stay (h := q) fun b u _ hb => gr b u hb⟩
   rcases m with m | rfl
   · exact n m
   · rw [hD] at q; cases q
 | exc C ns ds =>
   obtain ⟨ys, e, z⟩ := h2
   have mv : ∀ a u, unM O a → H a = some u → unM (O.plus D (.lst xs)) a ∧ upd H D (.lst xs) a = some u := fun a u f q => ⟨fun m => (by
     rcases m with m | rfl
     · exact f m
     · rw [hD] at q; cases q), gr _ _ q⟩
   exact ⟨ys, e.to mv, z.to (fun a ys f q => mv a _ f q) fun a ys q => SqT.stay (h := q) fun b u _ hb => gr b u hb⟩
 | thg T =>
   obtain ⟨W, hw, z⟩ := h2
   exact ⟨W, fun a w => ⟨fun m => (by
     obtain ⟨n, o, q⟩ := hw a w
     rcases m with m | rfl
     · exact n m
     · rw [hD] at q; cases q), let ⟨o, q⟩ := (hw a w).2; ⟨o, gr _ _ q⟩⟩, T.to (fun a u f q => ⟨fun m => (by
     rcases m with m | rfl
     · exact f m
     · rw [hD] at q; cases q), gr _ _ q⟩) (fun a u w q => ⟨w, gr _ _ q⟩) (fun b u _ hb => gr b u hb) z⟩
 | thr T =>
   obtain ⟨W, hw, z⟩ := h2
   exact ⟨W, fun a w => ⟨fun m => (by
     obtain ⟨n, o, q⟩ := hw a w
     rcases m with m | rfl
     · exact n m
     · rw [hD] at q; cases q), let ⟨o, q⟩ := (hw a w).2; ⟨o, gr _ _ q⟩⟩, T.to (fun a u f q => ⟨fun m => (by
     rcases m with m | rfl
     · exact f m
     · rw [hD] at q; cases q), gr _ _ q⟩) (fun a u w q => ⟨w, gr _ _ q⟩) (fun b u _ hb => gr b u hb) z⟩
theorem ed_comp {h : Nat} {wi : TI} {tg : TG} {tf : TT} {te : TE} {f : DI} {g : DG} {ft : DT} {fe : DE} (hs : SrcS K O wi f) (hg : ∀ O' : Ob, GS K O' tg g)
   (hf : ∀ (D : Addr) (xs : List V), ¬ O.M D → TD K (O.plus D (.lst xs)) tf ft) (he : ∀ (D : Addr) (xs : List V), ¬ O.M D → ED K (O.plus D (.lst xs)) te fe) : ED K O (tComp h wi tg tf te) (compD h f g ft fe) := by
 intro σ H ρ Q Qd S hq k
 refine hs σ H ρ _ _ S hq fun J H1 ds B fr W _ hgo D hD => ?_
 have S1 := S.stp W.st
 have nM : ¬ O.M D := fun m => by obtain ⟨o, z⟩ := S.ok.here H1 D S1.p m; rw [hD] at z; cases z
 have aD : ∀ a o, H1 a = some o → a ≠ D := fun a o e z => by rw [z, hD] at e; cases e
 refine ⟨fun i m ys H2 => m = ds.length - i ∧ i ≤ ds.length ∧ H2 D = some (.lst ys) ∧ (∀ a o, H1 a = some o → ¬ O.M a → H2 a = some o) ∧ TupStay H1 H2 ∧ Seen K (O.plus D (.lst ys)) H2 σ ρ ∧
     ∃ acc, IsAll K (fun a => ¬ (O.M a ∨ a = D)) H2 ys acc ∧ compGo h g ft fe ρ (fun es => Qd (.n es)) (ds.drop i) acc, ⟨ds.length, rfl, Nat.zero_le _, upd_same, fun a o e _ => by rw [upd_ne (aD a o e)]; exact e, fun a u _ e => by rw [upd_ne (aD a u e)]; exact e, seen_plus S1 hD, [], .nil, by simpa using hgo⟩, ?_⟩
 rintro i m ys H2 ⟨rfl, hi, hDy, kp, tst, S2, acc, hacc, go⟩
 refine ⟨hDy, ?_⟩
 have kB : ∀ a o, B a → H1 a = some o → H2 a = some o := fun a o b e => kp a o e (W.hb a b).1
 by_cases hlt : i < ds.length
 · right
   have hd : ds[i]? = some ds[i] := List.getElem?_eq_getElem hlt
   rw [List.drop_eq_getElem_cons hlt] at go
   obtain ⟨hgo1, hy⟩ := W.item H2 i ds[i] kB tst hd (.inr kp)
   refine ⟨hgo1, fun x H3 y => ?_⟩
   obtain ⟨sm, ix⟩ := hy x H3 y
   have st3 : Stp (O.plus D (.lst ys)) H2 H3 := .same S2.ok sm
   have S3 := S2.stp st3
   have ix' : Is K (unM (O.plus D (.lst ys))) H3 x ds[i] := by
     by_cases hfl : flat ds[i] = true
     · exact Is.flat (TupStay.refl H3) ix hfl
     · exact ix.weak fun a ha mm => by
         rcases mm with mm | mm
         · exact ha.1 mm
         · rcases ha.2 with z | ⟨o, z⟩
           · exact hfl z
           · exact aD a o z mm
   refine hg _ _ H3 _ x ds[i] _ _ (seen_pad S3 h) ix' go fun σ2 ρ2 Sg q => ?_
   refine hf D ys nM σ2 H3 ρ2 _ _ Sg q fun b H4 st4 q4 => ?_
   have st34 := st3.trans st4
   have acc4 : ∀ {H' : Hp}, Stp (O.plus D (.lst ys)) H2 H' → IsAll K (fun a => ¬ (O.M a ∨ a = D)) H' ys acc := fun st => hacc.stp st (fun _ z => z) (fun _ z => z)
   cases b with
   | false =>
     refine ⟨ds.length - (i + 1), by omega, rfl, hlt, st34.s D _ hDy |> fun z => (st34.p S2.p).2, fun a o e n => ?_, fun a u hu e => st34.t a u hu (tst a u hu e), S2.stp st34, acc, acc4 st34, q4⟩
     exact st34.s a o (kp a o e n) fun mm => by
       rcases mm with mm | mm
       · exact n mm
       · exact aD a o e mm
   | true =>
     refine he D ys nM σ2 H4 ρ2 _ _ (Sg.stp st4) q4 fun yv H5 r st5 o5 ⟨hz, q5⟩ => ?_
     have st25 := st34.trans st5
     have S5 := S2.stp st25
     have hD5 : H5 D = some (.lst ys) := (st25.p S2.p).2
     have iy := o5.is (Sg.stp st4).ok (Sg.stp st4).p
     have a5 := acc4 st25
     refine ⟨hD5, by rw [hacc.length]; exact hz, ds.length - (i + 1), by omega, rfl, hlt, upd_same, fun a o e n => ?_, fun a u hu e => ?_, ?_, acc ++ [r.d], ?_, q5⟩
     · rw [upd_ne (aD a o e)]
       exact st25.s a o (kp a o e n) fun mm => by
         rcases mm with mm | mm
         · exact n mm
         · exact aD a o e mm
     · rw [upd_ne (aD a u e)]
       exact st25.t a u hu (tst a u hu e)
     · have p5 : O.P (upd H5 D (.lst (ys ++ [yv]))) := S.ok.loc H5 _ (fun a m => upd_ne fun z => nM (z ▸ m)) S5.p.1
       refine ⟨S.ok.plus D _, ⟨p5, upd_same⟩, fun j r' e => ?_, S5.len⟩
       obtain ⟨v', h1, h2⟩ := S5.at_ j r' e
       have go : ∀ d, Is K (unM (O.plus D (.lst ys))) H5 v' d → Is K (unM (O.plus D (.lst (ys ++ [yv])))) (upd H5 D (.lst (ys ++ [yv]))) v' d := fun d z =>
         z.to (fun a xs fa qa => ⟨fa, by rw [upd_ne fun z => fa (.inr z)]; exact qa⟩) fun a xs qa => SqT.stay (h := qa) fun b u hu hb => by
           rw [upd_ne fun z => ?_]
           · exact hb
           · obtain ⟨us, e1 | ⟨o', e1⟩⟩ := hu <;> (rw [z, hD5] at hb; cases hb; cases e1)
       refine ⟨v', h1, ?_⟩
       cases r' with
       | im d => exact go d h2
       | own es => exact go _ h2
       | ob => exact h2
       | scr n => exact IsS.to (fun a u fa qa => ⟨fa, by rw [upd_ne fun z => fa (.inr z)]; exact qa⟩) h2
       | dct ks => obtain ⟨a, fa, h2⟩ := h2; exact ⟨a, fa, h2.to fun u qa => by rw [upd_ne fun z => fa (.inr z)]; exact qa⟩
       | gen f ds =>
         obtain ⟨a, xs, e, fa, q, z⟩ := h2
         refine ⟨a, xs, e, fa, by rw [upd_ne fun z => fa (.inr z)]; exact q, z.to (fun a xs fa qa => ⟨fa, by rw [upd_ne fun z => fa (.inr z)]; exact qa⟩) fun a xs qa => SqT.stay (h := qa) fun b u hu hb => ?_⟩
         rw [upd_ne fun z => ?_]
         · exact hb
         · obtain ⟨us, e1 | ⟨o', e1⟩⟩ := hu <;> (rw [z, hD5] at hb; cases hb; cases e1)
       | rd f ds =>
         obtain ⟨a, xs, e, fa, q, z⟩ := h2
         refine ⟨a, xs, e, fa, by rw [upd_ne fun z => fa (.inr z)]; exact q, z.to (fun a xs fa qa => ⟨fa, by rw [upd_ne fun z => fa (.inr z)]; exact qa⟩) fun a xs qa => SqT.stay (h := qa) fun b u hu hb => ?_⟩
         rw [upd_ne fun z => ?_]
         · exact hb
         · obtain ⟨us, e1 | ⟨o', e1⟩⟩ := hu <;> (rw [z, hD5] at hb; cases hb; cases e1)
       | exc C ns ds =>
         obtain ⟨xs, e, z⟩ := h2
         have mv : ∀ a u, unM (O.plus D (.lst ys)) a → H5 a = some u → unM (O.plus D (.lst (ys ++ [yv]))) a ∧ upd H5 D (.lst (ys ++ [yv])) a = some u := fun a u fa qa => ⟨fa, by rw [upd_ne fun z => fa (.inr z)]; exact qa⟩
         refine ⟨xs, e.to mv, z.to (fun a xs fa qa => mv a _ fa qa) fun a xs qa => SqT.stay (h := qa) fun b u hu hb => ?_⟩
         rw [upd_ne fun z => ?_]
         · exact hb
         · obtain ⟨us, e1 | ⟨o', e1⟩⟩ := hu <;> (rw [z, hD5] at hb; cases hb; cases e1)
       | thg T =>
         obtain ⟨W, hw, z⟩ := h2
         refine ⟨W, fun a w => ⟨(hw a w).1, let ⟨o, q⟩ := (hw a w).2; ⟨o, by rw [upd_ne fun z => (hw a w).1 (.inr z)]; exact q⟩⟩, T.to (fun a u fa qa => ⟨fa, by rw [upd_ne fun z => fa (.inr z)]; exact qa⟩) (fun a u w q => ⟨w, by rw [upd_ne fun z => (hw a w).1 (.inr z)]; exact q⟩) (fun b u hu hb => ?_) z⟩
         rw [upd_ne fun z => ?_]
         · exact hb
         · obtain ⟨us, e1 | ⟨o', e1⟩⟩ := hu <;> (rw [z, hD5] at hb; cases hb; cases e1)
       | thr T =>
         obtain ⟨W, hw, z⟩ := h2
         refine ⟨W, fun a w => ⟨(hw a w).1, let ⟨o, q⟩ := (hw a w).2; ⟨o, by rw [upd_ne fun z => (hw a w).1 (.inr z)]; exact q⟩⟩, T.to (fun a u fa qa => ⟨fa, by rw [upd_ne fun z => fa (.inr z)]; exact qa⟩) (fun a u w q => ⟨w, by rw [upd_ne fun z => (hw a w).1 (.inr z)]; exact q⟩) (fun b u hu hb => ?_) z⟩
         rw [upd_ne fun z => ?_]
         · exact hb
         · obtain ⟨us, e1 | ⟨o', e1⟩⟩ := hu <;> (rw [z, hD5] at hb; cases hb; cases e1)
     · have mv : ∀ {vs es}, IsAll K (fun a => ¬ (O.M a ∨ a = D)) H5 vs es → IsAll K (fun a => ¬ (O.M a ∨ a = D)) (upd H5 D (.lst (ys ++ [yv]))) vs es := fun z =>
         z.to (fun a xs fa qa => ⟨fa, by rw [upd_ne fun z => fa (.inr z)]; exact qa⟩) fun a xs qa => SqT.stay (h := qa) fun b u hu hb => by
           rw [upd_ne fun z => ?_]
           · exact hb
           · obtain ⟨us, e1 | ⟨o', e1⟩⟩ := hu <;> (rw [z, hD5] at hb; cases hb; cases e1)
       exact mv (a5.snoc iy)
 · left
   have e : i = ds.length := by omega
   subst e
   rw [List.drop_length] at go
   refine ⟨W.stop H2 _ kB tst (Nat.le_refl _), k _ H2 (.n acc) ?_ ⟨D, ys, rfl, W.st.s.free nM hD, hDy, hacc.weak fun a z m => z (.inl m)⟩ go⟩
   refine W.st.trans ⟨fun a o e n => kp a o e n, fun _ => S2.p.1, tst⟩
end
end L3
namespace L3
open PySem PySem.Spec
open PyProof.Rows hiding St
open L2
section
variable {K : PySem.W.Frag} {O : Ob}
theorem item_at {H1 H2 : Hp} {xs : List V} {ds : List PyData} {i : Nat} {d : PyData} (h : IsAll K (unM O) H1 xs ds) (hd : ds[i]? = some d) (t : TupStay H1 H2) (c : flat d = true ∨ ∀ a o, H1 a = some o → ¬ O.M a → H2 a = some o) :
   ∃ v, xs[i]? = some v ∧ Is K (fun a => ¬ O.M a ∧ (flat d = true ∨ ∃ o, H1 a = some o)) H2 v d := by
 obtain ⟨v, hv, iv⟩ := h.get hd
 refine ⟨v, hv, ?_⟩
 rcases c with c | c
 · exact Is.flat t iv c
 · exact iv.to (fun a ys f q => ⟨⟨f, .inr ⟨_, q⟩⟩, c a _ q f⟩) fun a ys q => SqT.stay (h := q) t
def R.isN : R → Bool
 | .n _ => true
 | .o _ => false
def srcL (f : DE) : DI := fun ρ Q => f ρ fun r => ∃ ds, r.d = .list ds ∧ Q r.isN ds
theorem src_list {t : TE} {f : DE} (h : ED K O t f) : SrcS K O (iList K t) (srcL f) := fun σ H ρ R Qd S hf k => by
 refine h σ H ρ _ _ S hf fun v H1 r st o1 ⟨ds, e, q⟩ => ?_
 have i1 := o1.is S.ok S.p
 rw [e] at i1
 cases i1 with
 | list f0 ha hs =>
   rename_i a xs
   refine ⟨a, rfl, ⟨xs, .of ha⟩, k (Itl K a) H1 ds (fun b => b = a) r.isN ⟨st, fun b hb => by subst hb; exact ⟨f0, _, ha⟩, fun H2 i kb _ hi => ?_, fun H2 i d kb t2 hd c => ?_⟩ (fun z b hb => ?_) q⟩
   · exact ⟨xs, .of (kb a _ rfl ha), by rw [hs.length]; exact hi⟩
   · obtain ⟨w, hw, iw⟩ := item_at (O := O) hs hd t2 c
     have q2 : SqL K H2 a xs := .of (kb a _ rfl ha)
     refine ⟨⟨xs, w, q2, hw⟩, fun x H3 ⟨e3, y⟩ => ?_⟩
     subst e3
     have := y xs q2
     rw [hw] at this
     cases this
     exact ⟨Same.refl _, iw⟩
   · subst hb
     cases r with
     | o d => cases z
     | n es =>
       obtain ⟨a', xs', e', hn, _⟩ := o1
       cases e'
       exact hn
def srcT (f : DE) : DI := fun ρ Q => f ρ fun r => ∃ ds, r.d = .tuple ds ∧ Q true ds
theorem src_tup {t : TE} {f : DE} (h : ED K O t f) : SrcS K O (iTup K t) (srcT f) := fun σ H ρ R Qd S hf k => by
 refine h σ H ρ _ _ S hf fun v H1 r st o1 ⟨ds, e, q⟩ => ?_
 have i1 := o1.is S.ok S.p
 rw [e] at i1
 cases i1 with
 | tuple ha hs =>
   rename_i a xs
   refine ⟨a, rfl, ⟨xs, ha⟩, k (Itt K a) H1 ds (fun _ => False) true ⟨st, fun b hb => hb.elim, fun H2 i kb t2 hi => ?_, fun H2 i d kb t2 hd c => ?_⟩ (fun z b hb => hb.elim) q⟩
   · exact ⟨xs, SqT.stay t2 ha, by rw [hs.length]; exact hi⟩
   · obtain ⟨w, hw, iw⟩ := item_at (O := O) hs hd t2 c
     have q2 : SqT K H2 a xs := SqT.stay t2 ha
     refine ⟨⟨xs, w, q2, hw⟩, fun x H3 ⟨e3, y⟩ => ?_⟩
     subst e3
     have := y xs q2
     rw [hw] at this
     cases this
     exact ⟨Same.refl _, iw⟩
def numsD (lo : Int) (n : Nat) : List PyData := (List.range n).map fun k => .int (lo + (k : Nat))
theorem numsD_get {lo : Int} {n i : Nat} {d : PyData} (h : (numsD lo n)[i]? = some d) : i < n ∧ d = .int (lo + (i : Nat)) := by
 unfold numsD at h
 rw [List.getElem?_map] at h
 by_cases hi : i < n
 · rw [List.getElem?_range hi] at h
   cases h
   exact ⟨hi, rfl⟩
 · rw [List.getElem?_eq_none (by simpa using hi)] at h
   cases h
theorem walk_ints {H H1 : Hp} (st : Stp O H H1) (lo : Int) (n : Nat) : Walk K O H H1 (Itr lo n) (numsD lo n) (fun _ => False) :=
 ⟨st, fun b hb => hb.elim, fun H2 i _ _ hi => (show n ≤ i by simpa [numsD] using hi), fun H2 i d _ t2 hd c => by
   obtain ⟨hi, rfl⟩ := numsD_get hd
   refine ⟨hi, fun x H3 ⟨e3, y⟩ => ?_⟩
   subst e3 y
   exact ⟨Same.refl _, .int _⟩⟩
def srcR1 (g : DA) : DI := fun ρ Q => g ρ fun ds => ∃ j : Int, ds = [.int j] ∧ -(2 ^ 62) ≤ j ∧ j < 2 ^ 62 ∧ Q true (numsD 0 j.toNat)
theorem src_rng1 {t : TA} {g : DA} (h : AD K O t g) : SrcS K O (iRng1 t) (srcR1 g) := fun σ H ρ R Qd S hf k => by
 refine h σ H ρ _ _ S hf fun vs H1 ds st is ⟨j, e, b1, b2, q⟩ => ?_
 subst e
 cases is with
 | cons i0 is =>
   cases is
   cases i0
   exact ⟨j, rfl, b1, b2, k _ H1 _ _ true (walk_ints st 0 j.toNat) (fun _ _ hb => hb.elim) q⟩
end
def sg (c : Nat) : Str := ⟨#[c]⟩
def Its (x : Str) : It := ⟨fun i _ => i < x.cps.size, fun i H v H' => H' = H ∧ ∃ c, x.cps[i]? = some c ∧ v = .str (sg c), fun i _ => x.cps.size ≤ i⟩
theorem turn_str {P : Program} {w : World} {K : PySem.W.Frag} {tg : Expr} {it : Addr} {x : Str} {t : Tok} {ty : String} (hty : ["enumerate", "zip", "dict_itemiterator", "dict_reverseitemiterator", "odict_iterator", "itertools.zip_longest", "itertools.pairwise"].contains ty = false)
   (W : ∀ A' : Around, A'.handled = none → Walks P w A' it [it] [it] x.cps.size (SignAt x) (fun i h => h.IsStrIter it ty x t i))
   (hself : ∀ (A : Around) (i : Nat) (s : Shared) (Q : Value → Shared → Prop) (E : Value → Shared → Prop), s.heap.IsStrIter it ty x t i → Q (.ref it) s → wpAny (model P w) A (pyIter (.ref it)) Q E s) :
   Turn P w K tg (Its x) [it] it (fun i h => i ≤ x.cps.size ∧ h.IsStrIter it ty x t i) where
 mem := by simp
 obj := fun i h st b hb => by
   have e : b = it := by simpa using hb
   subst e
   obtain ⟨_, o, e, c, d⟩ := st
   exact ⟨o, e, fun v z => by rw [d] at z; cases z⟩
 keep := fun i h h' st k => ⟨st.1, by
   obtain ⟨_, o, e, c⟩ := st
   exact ⟨o, k it (by simp) o e, c⟩⟩
 item := by
   intro X hP hw hK hc i pins s σ H E I hf st hg
   subst hP hw hK
   obtain ⟨f0, f1, f2, f3, f4, f5⟩ := hf it (by simp)
   refine (W X.A (I.ok.hd hc)).item i s _ _ hg st.2 fun v h' tk hv st' kk => ?_
   obtain ⟨c, u, hcx, rfl⟩ := hv
   have I1 : Inv X pins σ H { s with heap := h', toks := tk } := I.turned (fun b o hb e => kk b o (by simpa using hb) e) f0 f1 f3 f4 f5
   obtain ⟨o, e, hcl, hdt⟩ := id st'
   exact ⟨_, rfl, go_of (s := { s with heap := h', toks := tk }) e hcl hdt hty ⟨.str (sg c), H, I1, ⟨u, rfl⟩, ⟨rfl, c, hcx, rfl⟩, ⟨hg, st'⟩, fun b hb => (hf b hb).1⟩⟩
 done := by
   intro X hP hw hK hc i pins s σ H E I hf st hg
   subst hP hw hK
   obtain ⟨f0, f1, f2, f3, f4, f5⟩ := hf it (by simp)
   have hi : i = x.cps.size := Nat.le_antisymm st.1 hg
   subst hi
   exact (W X.A (I.ok.hd hc)).done s _ _ st.2 fun h' tk kk => ⟨rfl, I.turned (fun b o hb e => kk b o (by simpa using hb) e) f0 f1 f3 f4 f5⟩
 self := fun A i s Q E st h => hself A i s Q E st.2 h
def iStr (t : TE) : TI := fun σ H R => t σ H fun v H1 => ∃ x, v = .str x ∧ R (Its x) H1
theorem pi_str {X : Cx} {tg l : Expr} {tl : TE} (hl : PE X l tl) : PI X tg l (iStr tl) := by
 intro pins s σ H R I h
 refine thn (hl pins s σ H _ I h) fun v s1 ⟨y, H1, I1, r1, q1⟩ => ?_
 obtain ⟨x, e, q⟩ := q1
 subst e
 obtain ⟨t, rfl⟩ := r1
 have fin : ∀ (o : Obj) (T : Nat → Heap → Prop), Turn X.prog X.w X.K tg (Its x) [s1.heap.objs.size] s1.heap.objs.size T → T 0 (s1.heap.push o) → PIE X pins σ tg R (.ref s1.heap.objs.size) { s1 with heap := s1.heap.push o } := fun o T hT h0 => by
   refine ⟨s1.heap.objs.size, [s1.heap.objs.size], T, Its x, H1, rfl, I1.kept (t' := s1.toks) fun b o e => Heap.get?_push_of_some _ e, hT, h0, fun b hb => ?_, q⟩
   have e : b = s1.heap.objs.size := by simpa using hb
   subst e
   exact I1.fpOk (Nat.le_refl _) (I1.hok.fresh (Nat.le_refl _))
 cases ha : x.cps.all (· < 128)
 · exact wpAny_pyIter_wide ha (fin _ _ (turn_str (by decide) (fun A' hA => Walks.strWide hA _ x t) fun _ _ _ _ _ st h => wpAny_pyIter_striter_wide st h) ⟨Nat.zero_le _, _, Heap.get?_push_size _ rfl, rfl, rfl⟩)
 · exact wpAny_pyIter_ascii ha (fin _ _ (turn_str (by decide) (fun A' hA => Walks.strAscii hA _ x t) fun _ _ _ _ _ st h => wpAny_pyIter_striter_ascii st h) ⟨Nat.zero_le _, _, Heap.get?_push_size _ rfl, rfl, rfl⟩)
def sgs (x : Str) : List PyData := x.cps.toList.map fun c => .str (sg c)
def srcS (f : DE) : DI := fun ρ Q => f ρ fun r => ∃ x, r.d = .str x ∧ Q true (sgs x)
theorem src_str {K : PySem.W.Frag} {O : Ob} {t : TE} {f : DE} (h : ED K O t f) : SrcS K O (iStr t) (srcS f) := fun σ H ρ R Qd S hf k => by
 refine h σ H ρ _ _ S hf fun v H1 r st o1 ⟨x, e, q⟩ => ?_
 have i1 := o1.is S.ok S.p
 rw [e] at i1
 cases i1
 refine ⟨x, rfl, k (Its x) H1 (sgs x) (fun _ => False) true ⟨st, fun b hb => hb.elim, fun H2 i _ _ hi => (show x.cps.size ≤ i by simpa [sgs] using hi), fun H2 i d _ t2 hd c => ?_⟩ (fun _ _ hb => hb.elim) q⟩
 unfold sgs at hd
 rw [List.getElem?_map] at hd
 obtain ⟨n, hn, rfl⟩ := Option.map_eq_some_iff.mp hd
 have hn' : x.cps[i]? = some n := by simpa using hn
 have hi : i < x.cps.size := by
   obtain ⟨z, _⟩ := Array.getElem?_eq_some_iff.mp hn'
   exact z
 refine ⟨hi, fun y H3 ⟨e3, n', h1, h2⟩ => ?_⟩
 subst e3 h2
 rw [hn'] at h1
 cases h1
 exact ⟨Same.refl _, .str _⟩
structure DEnds where
 nx : DSt → Prop
 rt : R → Prop
 bk : DSt → Prop := fun _ => False
 ct : DSt → Prop := fun _ => False
abbrev DS := DEnds → DSt → Prop
def unO (O : Ob) (A : Nat → Addr → Prop) : Addr → Prop := fun a => ¬ O.M a ∧ ∀ j, ¬ A j a
def OwnO (o : HO) : Prop := ∀ us, o ≠ .tup us ∧ ∀ o', o ≠ .frz o' (.tup us)
theorem OwnO.lst {xs : List V} : OwnO (.lst xs) := fun _ => ⟨fun z => (nomatch z), fun _ z => (nomatch z)⟩
def RepV (K : PySem.W.Frag) (O : Ob) (A : Nat → Addr → Prop) (H : Hp) (i : Nat) (v : V) : DV → Prop
 | .im d => Is K (unO O A) H v d
 | .own ds => ∃ a xs, v = .ref a ∧ A i a ∧ H a = some (.lst xs) ∧ IsAll K (unO O A) H xs ds
 | .ob => v = O.v
 | .scr n => IsS K (unO O A) H v n
 | .dct ks => ∃ a, A i a ∧ DkAt H v a ks
 | .gen f ds => ∃ a xs, v = .ref a ∧ A i a ∧ H a = some (f a xs) ∧ IsAll K (unO O A) H xs ds
 | .rd f ds => ∃ a xs, v = .ref a ∧ unO O A a ∧ H a = some (f a xs) ∧ IsAll K (unO O A) H xs ds
 | .exc C ns ds => ∃ xs, ExAt (unO O A) H v C ns xs ∧ IsAll K (unO O A) H xs ds
 | .thg T => T.R K (unO O A) (A i) H v
 | .thr T => ∃ W : Addr → Prop, (∀ a, W a → unO O A a ∧ ∃ o, H a = some o) ∧ T.R K (unO O A) W H v
structure Rep (K : PySem.W.Frag) (O : Ob) (H₀ : Hp) (A : Nat → Addr → Prop) (H : Hp) (σ : St) (ρ : DSt) : Prop where
 ok : O.Ok
 p : O.P H
 p0 : O.P H₀
 st : Stp O H₀ H
 dis : ∀ i j a, A i a → A j a → i = j
 own : ∀ i a, A i a → H₀ a = none ∧ (∃ o, H a = some o ∧ OwnO o) ∧ ¬ O.M a
 at_ : ∀ (i : Nat) r, ρ[i]? = some (some r) → ∃ v, σ[i]? = some (some v) ∧ RepV K O A H i v r
 len : ρ.length = σ.length
def Frm (O : Ob) (A : Nat → Addr → Prop) (H : Hp) (A' : Nat → Addr → Prop) (H' : Hp) : Prop := ∀ a o, H a = some o → unO O A a → H' a = some o ∧ unO O A' a
theorem Frm.refl {O : Ob} {A : Nat → Addr → Prop} {H : Hp} : Frm O A H A H := fun _ _ h u => ⟨h, u⟩
theorem Frm.trans {O : Ob} {A A1 A2 : Nat → Addr → Prop} {H H1 H2 : Hp} (a : Frm O A H A1 H1) (b : Frm O A1 H1 A2 H2) : Frm O A H A2 H2 := fun c o h u => let ⟨h1, u1⟩ := a c o h u; b c o h1 u1
structure Post (K : PySem.W.Frag) (O : Ob) (H₀ : Hp) (A : Nat → Addr → Prop) (H : Hp) (D : Ends) (Dd : DEnds) : Prop where
 nx : ∀ A' σ' H' ρ', Rep K O H₀ A' H' σ' ρ' → Frm O A H A' H' → Dd.nx ρ' → D.nx σ' H'
 bk : ∀ A' σ' H' ρ', Rep K O H₀ A' H' σ' ρ' → Frm O A H A' H' → Dd.bk ρ' → D.bk σ' H'
 ct : ∀ A' σ' H' ρ', Rep K O H₀ A' H' σ' ρ' → Frm O A H A' H' → Dd.ct ρ' → D.ct σ' H'
 rt : ∀ H' v r, Stp O H₀ H' → Out K O H₀ H' v r → Dd.rt r → D.rt v H'
def SD (K : PySem.W.Frag) (O : Ob) (t : TS) (g : DS) : Prop :=
 ∀ (H₀ : Hp) (A : Nat → Addr → Prop) (σ : St) (H : Hp) (ρ : DSt) (D : Ends) (Dd : DEnds), Rep K O H₀ A H σ ρ → g Dd ρ → Post K O H₀ A H D Dd → t D σ H
section
variable {K : PySem.W.Frag} {O : Ob} {H₀ H H' : Hp} {A : Nat → Addr → Prop} {σ : St} {ρ : DSt}
theorem Rep.seen (r : Rep K O H₀ A H σ ρ) : Seen K O H σ ρ := by
 refine ⟨r.ok, r.p, fun i x e => ?_, r.len⟩
 obtain ⟨v, hv, h⟩ := r.at_ i x e
 refine ⟨v, hv, ?_⟩
 cases x with
 | im d => exact h.weak fun a u => u.1
 | own ds =>
   obtain ⟨a, xs, rfl, ha, hl, hs⟩ := h
   exact .list (r.own i a ha).2.2 hl (hs.weak fun a u => u.1)
 | ob => exact h
 | scr n => exact IsS.to (fun a u f q => ⟨f.1, q⟩) h
 | dct ks => obtain ⟨a, ha, h⟩ := h; exact ⟨a, (r.own i a ha).2.2, h⟩
 | gen f ds => obtain ⟨a, xs, e, ha, q, z⟩ := h; exact ⟨a, xs, e, (r.own i a ha).2.2, q, z.weak fun a u => u.1⟩
 | rd f ds => obtain ⟨a, xs, e, ha, q, z⟩ := h; exact ⟨a, xs, e, ha.1, q, z.weak fun a u => u.1⟩
 | exc C ns ds => obtain ⟨xs, e, z⟩ := h; exact ⟨xs, e.to fun a u f q => ⟨f.1, q⟩, z.weak fun a u => u.1⟩
 | thg T => exact ⟨A i, fun a w => ⟨(r.own i a w).2.2, let ⟨o, q, _⟩ := (r.own i a w).2.1; ⟨o, q⟩⟩, T.to (fun a u f q => ⟨f.1, q⟩) (fun a u w q => ⟨w, q⟩) (TupStay.refl _) h⟩
 | thr T => obtain ⟨W, hw, z⟩ := h; exact ⟨W, fun a w => ⟨(hw a w).1.1, (hw a w).2⟩, T.to (fun a u f q => ⟨f.1, q⟩) (fun a u w q => ⟨w, q⟩) (TupStay.refl _) z⟩
theorem Rep.stp (r : Rep K O H₀ A H σ ρ) (s : Stp O H H') : Rep K O H₀ A H' σ ρ := by
 refine ⟨r.ok, s.p r.p, r.p0, r.st.trans s, r.dis, fun i a ha => ?_, fun i x e => ?_, r.len⟩
 · obtain ⟨h0, ⟨xs, hx, ho⟩, hm⟩ := r.own i a ha
   exact ⟨h0, ⟨xs, s.s a _ hx hm, ho⟩, hm⟩
 · obtain ⟨v, hv, h⟩ := r.at_ i x e
   refine ⟨v, hv, ?_⟩
   cases x with
   | im d => exact Is.stp s (fun _ z => z) (fun _ z => z.1) h
   | own ds =>
     obtain ⟨a, xs, rfl, ha, hl, hs⟩ := h
     exact ⟨a, xs, rfl, ha, s.s a _ hl (r.own i a ha).2.2, hs.stp s (fun _ z => z) (fun _ z => z.1)⟩
   | ob => exact h
   | scr n => exact IsS.to (fun a u f q => ⟨f, s.s a u q f.1⟩) h
   | dct ks => obtain ⟨a, ha, h⟩ := h; exact ⟨a, ha, h.to fun u q => s.s a u q (r.own i a ha).2.2⟩
   | gen f ds => obtain ⟨a, xs, e, ha, q, z⟩ := h; exact ⟨a, xs, e, ha, s.s a _ q (r.own i a ha).2.2, z.stp s (fun _ z => z) (fun _ z => z.1)⟩
   | rd f ds => obtain ⟨a, xs, e, ha, q, z⟩ := h; exact ⟨a, xs, e, ha, s.s a _ q ha.1, z.stp s (fun _ z => z) (fun _ z => z.1)⟩
   | exc C ns ds => obtain ⟨xs, e, z⟩ := h; exact ⟨xs, e.to fun a u f q => ⟨f, s.s a u q f.1⟩, z.stp s (fun _ z => z) (fun _ z => z.1)⟩
   | thg T => exact T.to (fun a u f q => ⟨f, s.s a u q f.1⟩) (fun a u w q => ⟨w, s.s a u q (r.own i a w).2.2⟩) s.t h
   | thr T => obtain ⟨W, hw, z⟩ := h; exact ⟨W, fun a w => let ⟨f, o, q⟩ := hw a w; ⟨f, o, s.s a o q f.1⟩, T.to (fun a u f q => ⟨f, s.s a u q f.1⟩) (fun a u w q => ⟨w, s.s a u q (hw a w).1.1⟩) s.t z⟩
theorem Frm.stp (s : Stp O H H') : Frm O A H A H' := fun a o e u => ⟨s.s a o e u.1, u⟩
theorem Rep.setIm {i : Nat} {v : V} {d : PyData} (r : Rep K O H₀ A H σ ρ) (h : Is K (unO O A) H v d) : Rep K O H₀ (fun j a => j ≠ i ∧ A j a) H (σ.set i (some v)) (ρ.set i (some (.im d))) := by
 have un : ∀ a, unO O A a → unO O (fun j a => j ≠ i ∧ A j a) a := fun a u => ⟨u.1, fun j z => u.2 j z.2⟩
 refine ⟨r.ok, r.p, r.p0, r.st, fun j k a x y => r.dis j k a x.2 y.2, fun j a x => r.own j a x.2, fun j x e => ?_, by rw [List.length_set, List.length_set]; exact r.len⟩
 by_cases hj : i = j
 · subst hj
   have hi : i < ρ.length := by
     rcases Nat.lt_or_ge i ρ.length with z | z
     · exact z
     · rw [List.getElem?_eq_none (by simpa using z)] at e; cases e
   rw [List.getElem?_set_self hi] at e
   cases e
   exact ⟨v, List.getElem?_set_self (by have := r.len; omega), h.weak un⟩
 · rw [List.getElem?_set_ne hj] at e
   obtain ⟨w, h1, h2⟩ := r.at_ j x e
   refine ⟨w, by rw [List.getElem?_set_ne hj]; exact h1, ?_⟩
   cases x with
   | im d => exact h2.weak un
   | own ds =>
     obtain ⟨a, xs, rfl, ha, hl, hs⟩ := h2
     exact ⟨a, xs, rfl, ⟨fun z => hj z.symm, ha⟩, hl, hs.weak un⟩
   | ob => exact h2
   | scr n => exact IsS.to (fun a u f q => ⟨un a f, q⟩) h2
   | dct ks => obtain ⟨a, ha, h2⟩ := h2; exact ⟨a, ⟨fun z => hj z.symm, ha⟩, h2⟩
   | gen f ds => obtain ⟨a, xs, e, ha, q, z⟩ := h2; exact ⟨a, xs, e, ⟨fun z => hj z.symm, ha⟩, q, z.weak un⟩
   | rd f ds => obtain ⟨a, xs, e, ha, q, z⟩ := h2; exact ⟨a, xs, e, un a ha, q, z.weak un⟩
   | exc C ns ds => obtain ⟨xs, e, z⟩ := h2; exact ⟨xs, e.to fun a u f q => ⟨un a f, q⟩, z.weak un⟩
   | thg T => exact T.to (fun a u f q => ⟨un a f, q⟩) (fun a u w q => ⟨⟨fun z => hj z.symm, w⟩, q⟩) (TupStay.refl _) h2
   | thr T => obtain ⟨W, hw, z⟩ := h2; exact ⟨W, fun a w => ⟨un a (hw a w).1, (hw a w).2⟩, T.to (fun a u f q => ⟨un a f, q⟩) (fun a u w q => ⟨w, q⟩) (TupStay.refl _) z⟩
theorem Rep.setOwn {i : Nat} {a : Addr} {xs : List V} {ds : List PyData} (r : Rep K O H₀ A H σ ρ) (s : Stp O H H') (hn : H a = none) (hl : H' a = some (.lst xs)) (hf : IsAll K (unM O) H' xs ds) (fl : flats ds = true) :
   Rep K O H₀ (fun j b => (j ≠ i ∧ A j b) ∨ (j = i ∧ b = a)) H' (σ.set i (some (.ref a))) (ρ.set i (some (.own ds))) := by
 have hm : ¬ O.M a := fun m => by obtain ⟨o, z⟩ := r.ok.here H a r.p m; rw [hn] at z; cases z
 have new : ∀ j, ¬ A j a := fun j z => by obtain ⟨_, ⟨ys, q, _⟩, _⟩ := r.own j a z; rw [hn] at q; cases q
 have un : ∀ b o, H b = some o → unO O A b → unO O (fun j b => (j ≠ i ∧ A j b) ∨ (j = i ∧ b = a)) b := fun b o e u => ⟨u.1, fun j z => by
   rcases z with z | z
   · exact u.2 j z.2
   · rw [z.2, hn] at e; cases e⟩
 have mv : ∀ {v d}, Is K (unO O A) H v d → Is K (unO O (fun j b => (j ≠ i ∧ A j b) ∨ (j = i ∧ b = a))) H' v d := fun z =>
   z.to (fun b ys f q => ⟨un b _ q f, s.s b _ q f.1⟩) fun b ys q => SqT.stay (h := q) s.t
 have mvs : ∀ {v d}, IsAll K (unO O A) H v d → IsAll K (unO O (fun j b => (j ≠ i ∧ A j b) ∨ (j = i ∧ b = a))) H' v d := fun z =>
   z.to (fun b ys f q => ⟨un b _ q f, s.s b _ q f.1⟩) fun b ys q => SqT.stay (h := q) s.t
 refine ⟨r.ok, s.p r.p, r.p0, r.st.trans s, fun j k b x y => ?_, fun j b x => ?_, fun j x e => ?_, by rw [List.length_set, List.length_set]; exact r.len⟩
 · rcases x with x | x <;> rcases y with y | y
   · exact r.dis j k b x.2 y.2
   · exact absurd (y.2 ▸ x.2) (new j)
   · exact absurd (x.2 ▸ y.2) (new k)
   · exact x.1.trans y.1.symm
 · rcases x with x | x
   · obtain ⟨h0, ⟨ys, q, ho⟩, m⟩ := r.own j b x.2
     exact ⟨h0, ⟨ys, s.s b _ q m, ho⟩, m⟩
   · obtain ⟨rfl, rfl⟩ := x
     exact ⟨r.st.s.free hm hn, ⟨_, hl, .lst⟩, hm⟩
 · by_cases hj : i = j
   · subst hj
     have hi : i < ρ.length := by
       rcases Nat.lt_or_ge i ρ.length with z | z
       · exact z
       · rw [List.getElem?_eq_none (by simpa using z)] at e; cases e
     rw [List.getElem?_set_self hi] at e
     cases e
     exact ⟨.ref a, List.getElem?_set_self (by have := r.len; omega), a, xs, rfl, .inr ⟨rfl, rfl⟩, hl, IsAll.flats (TupStay.refl H') hf fl⟩
   · rw [List.getElem?_set_ne hj] at e
     obtain ⟨w, h1, h2⟩ := r.at_ j x e
     refine ⟨w, by rw [List.getElem?_set_ne hj]; exact h1, ?_⟩
     cases x with
     | im d => exact mv h2
     | own es =>
       obtain ⟨b, ys, rfl, hb, hlb, hs⟩ := h2
       exact ⟨b, ys, rfl, .inl ⟨fun z => hj z.symm, hb⟩, s.s b _ hlb (r.own j b hb).2.2, mvs hs⟩
     | ob => exact h2
     | scr n => exact IsS.to (fun b u f q => ⟨un b u q f, s.s b u q f.1⟩) h2
     | dct ks => obtain ⟨b, hb, h2⟩ := h2; exact ⟨b, .inl ⟨fun z => hj z.symm, hb⟩, h2.to fun u q => s.s b u q (r.own j b hb).2.2⟩
     | gen f ds => obtain ⟨b, xs, e, hb, q, z⟩ := h2; exact ⟨b, xs, e, .inl ⟨fun z => hj z.symm, hb⟩, s.s b _ q (r.own j b hb).2.2, mvs z⟩
     | rd f ds => obtain ⟨b, xs, e, hb, q, z⟩ := h2; exact ⟨b, xs, e, un b _ q hb, s.s b _ q hb.1, mvs z⟩
     | exc C ns ds => obtain ⟨xs, e, z⟩ := h2; exact ⟨xs, e.to fun b u f q => ⟨un b _ q f, s.s b _ q f.1⟩, mvs z⟩
     | thg T => exact T.to (fun b u f q => ⟨un b u q f, s.s b u q f.1⟩) (fun b u w q => ⟨.inl ⟨fun z => hj z.symm, w⟩, s.s b u q (r.own j b w).2.2⟩) s.t h2
     | thr T => obtain ⟨W, hw, z⟩ := h2; exact ⟨W, fun b w => let ⟨f, o, q⟩ := hw b w; ⟨un b o q f, o, s.s b o q f.1⟩, T.to (fun b u f q => ⟨un b u q f, s.s b u q f.1⟩) (fun b u w q => ⟨w, s.s b u q (hw b w).1.1⟩) s.t z⟩
theorem Frm.setIm {i : Nat} (s : Stp O H H') : Frm O A H (fun j a => j ≠ i ∧ A j a) H' := fun a o e u => ⟨s.s a o e u.1, u.1, fun j z => u.2 j z.2⟩
theorem Frm.setOwn {i : Nat} {a : Addr} (s : Stp O H H') (hn : H a = none) : Frm O A H (fun j b => (j ≠ i ∧ A j b) ∨ (j = i ∧ b = a)) H' := fun b o e u => ⟨s.s b o e u.1, u.1, fun j z => by
 rcases z with z | z
 · exact u.2 j z.2
 · rw [z.2, hn] at e; cases e⟩
theorem Rep.change {i : Nat} {a : Addr} {ys : List V} {ds es : List PyData} (r : Rep K O H₀ A H σ ρ) (e : ρ[i]? = some (some (.own ds))) (hv : σ[i]? = some (some (.ref a))) (ha : A i a) (hs : IsAll K (unO O A) H ys es) :
   Rep K O H₀ A (upd H a (.lst ys)) σ (ρ.set i (some (.own es))) := by
 obtain ⟨h0, ⟨oo, hz, hoo⟩, hm⟩ := r.own i a ha
 have ts : TupStay H (upd H a (.lst ys)) := fun b u hu hb => by
   rw [upd_ne fun z => ?_]
   · exact hb
   · rw [z, hz] at hb
     cases hb
     obtain ⟨us, e1 | ⟨o', e1⟩⟩ := hu
     · exact absurd e1 (hoo us).1
     · exact absurd e1 ((hoo us).2 o')
 have mv : ∀ {v d}, Is K (unO O A) H v d → Is K (unO O A) (upd H a (.lst ys)) v d := fun z => z.to (fun b us f q => ⟨f, by rw [upd_ne (show b ≠ a from fun w => f.2 i (by rw [w]; exact ha))]; exact q⟩) fun b us q => SqT.stay (h := q) ts
 have mvs : ∀ {v d}, IsAll K (unO O A) H v d → IsAll K (unO O A) (upd H a (.lst ys)) v d := fun z => z.to (fun b us f q => ⟨f, by rw [upd_ne (show b ≠ a from fun w => f.2 i (by rw [w]; exact ha))]; exact q⟩) fun b us q => SqT.stay (h := q) ts
 have pp : O.P (upd H a (.lst ys)) := r.ok.loc H _ (fun b m => upd_ne fun z => hm (z ▸ m)) r.p
 refine ⟨r.ok, pp, r.p0, ⟨fun b o hb n => ?_, fun _ => pp, fun b u hu hb => ts b u hu (r.st.t b u hu hb)⟩, r.dis, fun j b hb => ?_, fun j x ej => ?_, by rw [List.length_set]; exact r.len⟩
 · rw [upd_ne fun z => ?_]
   · exact r.st.s b o hb n
   · rw [z, h0] at hb; cases hb
 · obtain ⟨k0, ⟨us, k1, ko⟩, k2⟩ := r.own j b hb
   by_cases hba : b = a
   · subst hba; exact ⟨k0, ⟨_, upd_same, .lst⟩, k2⟩
   · exact ⟨k0, ⟨us, by rw [upd_ne hba]; exact k1, ko⟩, k2⟩
 · by_cases hj : i = j
   · subst hj
     have hi : i < ρ.length := (List.getElem?_eq_some_iff.mp e).1
     rw [List.getElem?_set_self hi] at ej
     cases ej
     exact ⟨.ref a, hv, a, ys, rfl, ha, upd_same, mvs hs⟩
   · rw [List.getElem?_set_ne hj] at ej
     obtain ⟨w, h1, h2⟩ := r.at_ j x ej
     refine ⟨w, h1, ?_⟩
     cases x with
     | im d => exact mv h2
     | own fs =>
       obtain ⟨b, us, rfl, hb, hlb, hs2⟩ := h2
       exact ⟨b, us, rfl, hb, by rw [upd_ne (show b ≠ a from fun z => hj (r.dis i j a ha (by rw [← z]; exact hb)))]; exact hlb, mvs hs2⟩
     | ob => exact h2
     | scr n => exact IsS.to (fun b u f q => ⟨f, by rw [upd_ne (show b ≠ a from fun w => f.2 i (by rw [w]; exact ha))]; exact q⟩) h2
     | dct ks => obtain ⟨b, hb, h2⟩ := h2; exact ⟨b, hb, h2.to fun u q => by rw [upd_ne (show b ≠ a from fun z => hj (r.dis i j a ha (by rw [← z]; exact hb)))]; exact q⟩
     | gen f ds => obtain ⟨b, xs, e, hb, q, z⟩ := h2; exact ⟨b, xs, e, hb, by rw [upd_ne (show b ≠ a from fun z => hj (r.dis i j a ha (by rw [← z]; exact hb)))]; exact q, mvs z⟩
     | rd f ds => obtain ⟨b, xs, e, hb, q, z⟩ := h2; exact ⟨b, xs, e, hb, by rw [upd_ne (show b ≠ a from fun w => hb.2 i (by rw [w]; exact ha))]; exact q, mvs z⟩
     | exc C ns ds => obtain ⟨xs, e, z⟩ := h2; exact ⟨xs, e.to fun b u f q => ⟨f, by rw [upd_ne (show b ≠ a from fun w => f.2 i (by rw [w]; exact ha))]; exact q⟩, mvs z⟩
     | thg T => exact T.to (fun b u f q => ⟨f, by rw [upd_ne (show b ≠ a from fun w => f.2 i (by rw [w]; exact ha))]; exact q⟩) (fun b u w q => ⟨w, by rw [upd_ne (show b ≠ a from fun z => hj (r.dis i j a ha (by rw [← z]; exact w)))]; exact q⟩) ts h2
     | thr T => obtain ⟨W, hw, z⟩ := h2; exact ⟨W, fun b w => let ⟨f, o, q⟩ := hw b w; ⟨f, o, by rw [upd_ne (show b ≠ a from fun w => f.2 i (by rw [w]; exact ha))]; exact q⟩, T.to (fun b u f q => ⟨f, by rw [upd_ne (show b ≠ a from fun w => f.2 i (by rw [w]; exact ha))]; exact q⟩) (fun b u w q => ⟨w, by rw [upd_ne (show b ≠ a from fun y => (hw b w).1.2 i (by rw [y]; exact ha))]; exact q⟩) ts z⟩
theorem Frm.change {i : Nat} {a : Addr} {o : HO} (ha : A i a) : Frm O A H A (upd H a o) := fun b u e n => ⟨by rw [upd_ne (show b ≠ a from fun z => n.2 i (by rw [z]; exact ha))]; exact e, n⟩
end
section
variable {K : PySem.W.Frag} {O : Ob}
theorem Post.frm {H₀ : Hp} {A A1 : Nat → Addr → Prop} {H H1 : Hp} {D : Ends} {Dd : DEnds} (P : Post K O H₀ A H D Dd) (f : Frm O A H A1 H1) : Post K O H₀ A1 H1 D Dd :=
 ⟨fun A' σ' H' ρ' r g => P.nx A' σ' H' ρ' r (f.trans g), fun A' σ' H' ρ' r g => P.bk A' σ' H' ρ' r (f.trans g), fun A' σ' H' ρ' r g => P.ct A' σ' H' ρ' r (f.trans g), P.rt⟩
def seqD (g k : DS) : DS := fun Dd ρ => g { Dd with nx := k Dd } ρ
theorem sd_seq {t u : TS} {g k : DS} (h : SD K O t g) (h' : SD K O u k) : SD K O (tSeq t u) (seqD g k) := fun H₀ A σ H ρ D Dd r q P =>
 h H₀ A σ H ρ _ _ r q ⟨fun A' σ' H' ρ' r' f q' => h' H₀ A' σ' H' ρ' D Dd r' q' (P.frm f), P.bk, P.ct, P.rt⟩
theorem sd_next : SD K O tNext (fun Dd ρ => Dd.nx ρ) := fun H₀ A σ H ρ D Dd r q P => P.nx A σ H ρ r .refl q
def ifS (c : DT) (g k : DS) : DS := fun Dd ρ => c ρ fun b => if b = true then g Dd ρ else k Dd ρ
theorem sd_if {c : TT} {t u : TS} {fc : DT} {g k : DS} (hc : TD K O c fc) (h : SD K O t g) (h' : SD K O u k) : SD K O (tIfS c t u) (ifS fc g k) := fun H₀ A σ H ρ D Dd r q P => by
 refine hc σ H ρ _ _ r.seen q fun b H1 s1 q1 => ?_
 cases b with
 | true => exact h H₀ A σ H1 ρ D Dd (r.stp s1) q1 (P.frm (.stp s1))
 | false => exact h' H₀ A σ H1 ρ D Dd (r.stp s1) q1 (P.frm (.stp s1))
def retS (f : DE) : DS := fun Dd ρ => f ρ Dd.rt
theorem sd_ret {t : TE} {f : DE} (h : ED K O t f) : SD K O (tRet t) (retS f) := fun H₀ A σ H ρ D Dd r q P => by
 refine h σ H ρ _ _ r.seen q fun v H1 x s1 o1 q1 => P.rt H1 v x (r.st.trans s1) (o1.ahead r.ok r.p0 r.st) q1
def asgS (i : Nat) (f : DE) : DS := fun Dd ρ => f ρ fun r => match r with
 | .o d => flat d = true ∧ Dd.nx (ρ.set i (some (.im d)))
 | .n ds => flats ds = true ∧ Dd.nx (ρ.set i (some (.own ds)))
theorem sd_asg {i : Nat} {t : TE} {f : DE} (h : ED K O t f) : SD K O (tAsg t (gName i)) (asgS i f) := fun H₀ A σ H ρ D Dd r q P => by
 refine h σ H ρ _ _ r.seen q fun v H1 x s1 o1 q1 => ?_
 cases x with
 | o d =>
   obtain ⟨fl, q1⟩ := q1
   exact P.nx _ _ H1 _ ((r.stp s1).setIm (Is.flat (TupStay.refl H1) o1 fl)) (.setIm s1) q1
 | n ds =>
   obtain ⟨fl, q1⟩ := q1
   obtain ⟨a, xs, rfl, hn, hl, hs⟩ := o1
   exact P.nx _ _ H1 _ (r.setOwn s1 hn hl hs fl) (.setOwn s1 hn) q1
def appS (i : Nat) (f : DE) : DS := fun Dd ρ => ∃ ds, ρ[i]? = some (some (.own ds)) ∧ f ρ fun r => flat r.d = true ∧ ds.length < sizeLine ∧ Dd.nx (ρ.set i (some (.own (ds ++ [r.d]))))
theorem sd_append {i : Nat} {t : TE} {f : DE} (h : ED K O t f) : SD K O (tDrop (tBM K "list" rAppend (tVar i) (tCons t tNil))) (appS i f) := fun H₀ A σ H ρ D Dd r q P => by
 obtain ⟨ds, e, q⟩ := q
 obtain ⟨v, hv, a, xs, rfl, ha, hl, hs⟩ := r.at_ i _ e
 refine ⟨_, hv, ?_⟩
 refine ⟨.inl ⟨rfl, xs, .of hl⟩, ?_⟩
 refine h σ H ρ _ _ r.seen q fun w H1 x s1 o1 ⟨fl, hz, q1⟩ => ?_
 have r1 := r.stp s1
 obtain ⟨v1, hv1, a1, xs1, e1, ha1, hl1, hs1⟩ := r1.at_ i _ e
 rw [hv] at hv1
 cases hv1
 cases e1
 refine ⟨a, xs1, w, rfl, rfl, hl1, by rw [hs1.length]; exact hz, ?_⟩
 have iw : Is K (unO O A) H1 w x.d := Is.flat (TupStay.refl H1) (o1.is r.ok r.p) fl
 exact P.nx A σ _ _ (r1.change e hv ha (hs1.snoc iw)) ((Frm.stp s1).trans (.change ha)) q1
end
end L3
namespace L3
open PySem PySem.Spec
open PyProof.Rows hiding St
open L2
def GR (K : PySem.W.Frag) (O : Ob) (t : TG) (g : DG) : Prop :=
 ∀ (H₀ : Hp) (A : Nat → Addr → Prop) (σ : St) (H : Hp) (ρ : DSt) (v : V) (d : PyData) (Q : St → Hp → Prop) (Qd : DSt → Prop), Rep K O H₀ A H σ ρ → flat d = true → Is K (unO O A) H v d → g d ρ Qd →
   (∀ A' σ' ρ', Rep K O H₀ A' H σ' ρ' → Frm O A H A' H → Qd ρ' → Q σ' H) → t v σ H Q
section
variable {K : PySem.W.Frag} {O : Ob}
theorem gr_name {i : Nat} : GR K O (gName i) (gN i) := fun H₀ A σ H ρ v d Q Qd r _ h q k => k _ _ _ (r.setIm h) (.setIm (.refl _ _)) q
def forGo (g : DG) (gb : DS) (Dd : DEnds) : List PyData → DSt → Prop
 | [], ρ => Dd.nx ρ
 | d :: ds, ρ => flat d = true ∧ g d ρ fun ρ2 => gb { Dd with nx := forGo g gb Dd ds, ct := forGo g gb Dd ds, bk := Dd.nx } ρ2
abbrev DJ := DSt → (List PyData → Prop) → Prop
def SrcR (K : PySem.W.Frag) (O : Ob) (wi : TI) (f : DJ) : Prop :=
 ∀ (H₀ : Hp) (A : Nat → Addr → Prop) (σ : St) (H : Hp) (ρ : DSt) (R : It → Hp → Prop) (Qd : List PyData → Prop), Rep K O H₀ A H σ ρ → f ρ Qd →
   (∀ (J : It) (H1 : Hp) (ds : List PyData) (B : Addr → Prop), Walk K O H H1 J ds B → (∀ a, B a → unO O A a) → Qd ds → R J H1) → wi σ H R
def newJ (f : DI) : DJ := fun ρ Q => f ρ fun fr ds => fr = true ∧ Q ds
theorem srcR_of {wi : TI} {f : DI} (h : SrcS K O wi f) : SrcR K O wi (newJ f) := fun H₀ A σ H ρ R Qd r q k => by
 refine h σ H ρ _ _ r.seen q fun J H1 ds B fr W hfr ⟨e, q1⟩ => k J H1 ds B W (fun a b => ⟨(W.hb a b).1, fun j z => ?_⟩) q1
 obtain ⟨_, ⟨xs, q, _⟩, _⟩ := r.own j a z
 rw [hfr e a b] at q; cases q
def forS (f : DJ) (g : DG) (gb : DS) : DS := fun Dd ρ => f ρ fun ds => forGo g gb Dd ds ρ
theorem Rep.tupStay {H₀ : Hp} {A A2 : Nat → Addr → Prop} {H1 H2 : Hp} {σ : St} {ρ : DSt} (r : Rep K O H₀ A H1 σ ρ) (f : Frm O A H1 A2 H2) : TupStay H1 H2 := fun a u hu e => by
 refine (f a u e ⟨fun m => ?_, fun j z => ?_⟩).1
 · have mm := r.ok.mutb H1 a u r.p e m
   obtain ⟨xs, e1 | ⟨o, e1⟩⟩ := hu
   · exact mm.1 xs e1
   · exact mm.2 o _ e1
 · obtain ⟨_, ⟨xs, q, ho⟩, _⟩ := r.own j a z
   rw [e] at q
   cases q
   obtain ⟨ys, e1 | ⟨o, e1⟩⟩ := hu
   · exact (ho ys).1 e1
   · exact (ho ys).2 o e1
theorem sd_for {wi : TI} {tg : TG} {tb : TS} {f : DJ} {g : DG} {gb : DS} (hs : SrcR K O wi f) (hg : GR K O tg g) (hb : SD K O tb gb) : SD K O (tFor wi tg tb) (forS f g gb) := fun H₀ A σ H ρ D Dd r q P => by
 refine hs H₀ A σ H ρ _ _ r q fun J H1 ds B W uB go => ?_
 have r1 := r.stp W.st
 have f1 : Frm O A H A H1 := .stp W.st
 refine ⟨fun i m σ2 H2 => m = ds.length - i ∧ i ≤ ds.length ∧ ∃ A2 ρ2, Rep K O H₀ A2 H2 σ2 ρ2 ∧ Frm O A H1 A2 H2 ∧ forGo g gb Dd (ds.drop i) ρ2, ⟨ds.length, rfl, Nat.zero_le _, A, ρ, r1, .refl, by simpa using go⟩, ?_⟩
 rintro i m σ2 H2 ⟨rfl, hi, A2, ρ2, r2, f2, go2⟩
 have kB : ∀ a o, B a → H1 a = some o → H2 a = some o := fun a o b e => (f2 a o e (uB a b)).1
 have ts : TupStay H1 H2 := r1.tupStay f2
 by_cases hlt : i < ds.length
 · right
   have hd : ds[i]? = some ds[i] := List.getElem?_eq_getElem hlt
   rw [List.drop_eq_getElem_cons hlt] at go2
   obtain ⟨fl, go2⟩ := go2
   obtain ⟨hgo, hy⟩ := W.item H2 i ds[i] kB ts hd (.inl fl)
   refine ⟨hgo, fun σ' H' => ∃ A' ρ', Rep K O H₀ A' H' σ' ρ' ∧ Frm O A H1 A' H' ∧ forGo g gb Dd (ds.drop (i + 1)) ρ', fun σ' H' ⟨A', ρ', x1, x2, x3⟩ => ⟨ds.length - (i + 1), by omega, rfl, hlt, A', ρ', x1, x2, x3⟩, fun x H3 y => ?_⟩
   obtain ⟨sm, ix⟩ := hy x H3 y
   have st3 : Stp O H2 H3 := .same r2.ok sm
   have r3 := r2.stp st3
   refine hg H₀ A2 σ2 H3 ρ2 x ds[i] _ _ r3 fl (Is.flat (TupStay.refl H3) ix fl) go2 fun A3 σ3 ρ3 r3' f3 q3 => ?_
   have f13 : Frm O A H1 A3 H3 := (f2.trans (.stp st3)).trans f3
   refine hb H₀ A3 σ3 H3 ρ3 _ _ r3' q3 ⟨fun A' σ' H' ρ' r' f' q' => ⟨A', ρ', r', f13.trans f', q'⟩, fun A' σ' H' ρ' r' f' q' => P.nx A' σ' H' ρ' r' (f1.trans (f13.trans f')) q', fun A' σ' H' ρ' r' f' q' => ⟨A', ρ', r', f13.trans f', q'⟩, P.rt⟩
 · left
   have e : i = ds.length := by omega
   subst e
   rw [List.drop_length] at go2
   exact ⟨W.stop H2 _ kB ts (Nat.le_refl _), P.nx A2 σ2 H2 ρ2 r2 (f1.trans f2) go2⟩
def whileS (c : DT) (gb : DS) : DS := fun Dd ρ => ∃ W : Nat → DSt → Prop, (∃ m, W m ρ) ∧ ∀ m ρ, W m ρ → c ρ fun b => if b = true then gb { Dd with nx := fun ρ' => ∃ m', m' < m ∧ W m' ρ', ct := fun ρ' => ∃ m', m' < m ∧ W m' ρ', bk := Dd.nx } ρ else Dd.nx ρ
theorem sd_while {c : TT} {tb : TS} {fc : DT} {gb : DS} (hc : TD K O c fc) (hb : SD K O tb gb) : SD K O (tWhile c tb) (whileS fc gb) := fun H₀ A σ H ρ D Dd r q P => by
 obtain ⟨W, ⟨m0, w0⟩, turn⟩ := q
 refine ⟨fun m σ2 H2 => ∃ A2 ρ2, Rep K O H₀ A2 H2 σ2 ρ2 ∧ Frm O A H A2 H2 ∧ W m ρ2, ⟨m0, A, ρ, r, .refl, w0⟩, ?_⟩
 rintro m σ2 H2 ⟨A2, ρ2, r2, f2, w2⟩
 refine hc σ2 H2 ρ2 _ _ r2.seen (turn m ρ2 w2) fun b H3 s3 q3 => ?_
 have f3 : Frm O A H A2 H3 := f2.trans (.stp s3)
 cases b with
 | true =>
   refine ⟨fun σ' H' => ∃ A' ρ', Rep K O H₀ A' H' σ' ρ' ∧ Frm O A H A' H' ∧ ∃ m', m' < m ∧ W m' ρ', fun σ' H' ⟨A', ρ', x1, x2, m', x3, x4⟩ => ⟨m', x3, A', ρ', x1, x2, x4⟩, ?_⟩
   exact hb H₀ A2 σ2 H3 ρ2 _ _ (r2.stp s3) q3 ⟨fun A' σ' H' ρ' r' f' q' => ⟨A', ρ', r', f3.trans f', q'⟩, fun A' σ' H' ρ' r' f' q' => P.nx A' σ' H' ρ' r' (f3.trans f') q', fun A' σ' H' ρ' r' f' q' => ⟨A', ρ', r', f3.trans f', q'⟩, P.rt⟩
 | false => exact P.nx A2 σ2 H3 ρ2 (r2.stp s3) f3 q3
end
def spO (K : PySem.W.Frag) (φ : Ob → Prop) (n : Nat) (f : List PyData → (R → Prop) → Prop) : Sp := fun vs H Q _ =>
 ∃ (O : Ob) (ds : List PyData) (Qr : R → Prop), O.Ok ∧ φ O ∧ O.P H ∧ ds.length = n ∧ IsAll K (unM O) H vs ds ∧ f ds Qr ∧ ∀ r, Qr r → ∀ v H', Stp O H H' → Out K O H H' v r → Q v H'
def spD (K : PySem.W.Frag) (φ : Ob → Prop) (n : Nat) (f : List PyData → (R → Prop) → Prop) : Sp := fun vs H Q _ =>
 ∃ (O : Ob) (ds : List PyData) (ws : List V) (Qr : R → Prop), O.Ok ∧ φ O ∧ O.P H ∧ ds.length = n ∧ vs = O.v :: ws ∧ IsAll K (unM O) H ws ds ∧ f ds Qr ∧ ∀ r, Qr r → ∀ v H', Stp O H H' → Out K O H H' v r → Q v H'
def dstart (N : List Str) (rs : List DV) : DSt := rs.map some ++ List.replicate (N.length - rs.length) none
section
variable {K : PySem.W.Frag} {O : Ob}
theorem rep_start {N : List Str} {H : Hp} {vs : List V} {rs : List DV} (ok : O.Ok) (p : O.P H) (hl : vs.length = rs.length) (h : ∀ (i : Nat) r, rs[i]? = some r → ∃ v, vs[i]? = some v ∧ ((∃ d, r = .im d ∧ Is K (unM O) H v d) ∨ (r = .ob ∧ v = O.v))) :
   Rep K O H (fun _ _ => False) H (L2.start N vs) (dstart N rs) := by
 refine ⟨ok, p, p, .refl _ _, fun _ _ _ z => z.elim, fun _ _ z => z.elim, fun i r e => ?_, ?_⟩
 · unfold dstart at e
   by_cases hi : i < rs.length
   · rw [List.getElem?_append_left (by simpa using hi), List.getElem?_map] at e
     cases q : rs[i]? with
     | none => rw [q] at e; cases e
     | some r' =>
       rw [q] at e
       have e' : r' = r := Option.some.inj (Option.some.inj e)
       subst e'
       obtain ⟨v, hv, hh⟩ := h i r' q
       refine ⟨v, ?_, ?_⟩
       · unfold L2.start
         rw [List.getElem?_append_left (by rw [List.length_map, hl]; exact hi), List.getElem?_map, hv]
         rfl
       · rcases hh with ⟨d, rfl, hd⟩ | ⟨rfl, hd⟩
         · exact hd.weak fun a u => ⟨u, fun j z => z⟩
         · exact hd
   · rw [List.getElem?_append_right (by simpa using hi), List.getElem?_replicate] at e
     split at e <;> cases e
 · unfold dstart L2.start
   rw [List.length_append, List.length_append, List.length_map, List.length_map, List.length_replicate, List.length_replicate, hl]
theorem run_O {N : List Str} {t : TS} {g : DS} {H : Hp} {vs : List V} {ds : List PyData} {Q : VK} {Qr : R → Prop} (h : SD K O t g) (ok : O.Ok) (p : O.P H) (ia : IsAll K (unM O) H vs ds)
   (hg : g { nx := fun _ => Qr (.o .none), rt := Qr } (dstart N (ds.map .im))) (hQ : ∀ r, Qr r → ∀ v H', Stp O H H' → Out K O H H' v r → Q v H') : t { nx := fun _ H' => Q .non H', rt := Q } (L2.start N vs) H := by
 refine h H _ _ H _ _ _ (rep_start ok p (by rw [List.length_map]; exact ia.length) fun i r e => ?_) hg ⟨fun A' σ' H' ρ' r' _ q => hQ _ q .non H' r'.st Is.none, fun A' σ' H' ρ' r' _ q => q.elim, fun A' σ' H' ρ' r' _ q => q.elim, fun H' v r s o q => hQ r q v H' s o⟩
 rw [List.getElem?_map] at e
 obtain ⟨d, hd, rfl⟩ := Option.map_eq_some_iff.mp e
 obtain ⟨v, hv, iv⟩ := ia.get hd
 exact ⟨v, hv, .inl ⟨d, rfl, iv⟩⟩
theorem run_D {N : List Str} {t : TS} {g : DS} {H : Hp} {ws : List V} {ds : List PyData} {Q : VK} {Qr : R → Prop} (h : SD K O t g) (ok : O.Ok) (p : O.P H) (ia : IsAll K (unM O) H ws ds)
   (hg : g { nx := fun _ => Qr (.o .none), rt := Qr } (dstart N (.ob :: ds.map .im))) (hQ : ∀ r, Qr r → ∀ v H', Stp O H H' → Out K O H H' v r → Q v H') : t { nx := fun _ H' => Q .non H', rt := Q } (L2.start N (O.v :: ws)) H := by
 refine h H _ _ H _ _ _ (rep_start ok p (by rw [List.length_cons, List.length_cons, List.length_map, ia.length]) fun i r e => ?_) hg ⟨fun A' σ' H' ρ' r' _ q => hQ _ q .non H' r'.st Is.none, fun A' σ' H' ρ' r' _ q => q.elim, fun A' σ' H' ρ' r' _ q => q.elim, fun H' v r s o q => hQ r q v H' s o⟩
 cases i with
 | zero => cases e; exact ⟨O.v, rfl, .inr ⟨rfl, rfl⟩⟩
 | succ i =>
   rw [List.getElem?_cons_succ, List.getElem?_map] at e
   obtain ⟨d, hd, rfl⟩ := Option.map_eq_some_iff.mp e
   obtain ⟨v, hv, iv⟩ := ia.get hd
   exact ⟨v, by rw [List.getElem?_cons_succ]; exact hv, .inl ⟨d, rfl, iv⟩⟩
def calD (n : Nat) (f : List PyData → (R → Prop) → Prop) (g : DA) : DE := fun ρ Q => g ρ fun ds => ds.length = n ∧ f ds Q
theorem ed_call {φ : Ob → Prop} {n : Nat} {f : List PyData → (R → Prop) → Prop} {E : XK} {t : TA} {g : DA} (hφ : φ O) (h : AD K O t g) : ED K O (tCall (spO K φ n f) [] E t) (calD n f g) := fun σ H ρ Q Qd S q k => by
 refine h σ H ρ _ _ S q fun vs H1 ds s1 is ⟨hn, q1⟩ => ?_
 rw [List.append_nil]
 exact ⟨O, ds, Qd, S.ok, hφ, s1.p S.p, hn, is, q1, fun r qr v H' s2 o2 => k v H' r (s1.trans s2) (o2.ahead S.ok S.p s1) qr⟩
def calO (i : Nat) (n : Nat) (f : List PyData → (R → Prop) → Prop) (g : DA) : DE := fun ρ Q => ρ[i]? = some (some .ob) ∧ g ρ fun ds => ds.length = n ∧ f ds Q
theorem ed_callO {φ : Ob → Prop} {i n : Nat} {f : List PyData → (R → Prop) → Prop} {E : XK} {t : TA} {g : DA} (hφ : φ O) (h : AD K O t g) : ED K O (tCall (spD K φ n f) [] E (tCons (tVar i) t)) (calO i n f g) := fun σ H ρ Q Qd S q k => by
 obtain ⟨e, q⟩ := q
 obtain ⟨v, hv, hh⟩ := S.at_ i _ e
 refine ⟨v, hv, ?_⟩
 refine h σ H ρ _ _ S q fun vs H1 ds s1 is ⟨hn, q1⟩ => ?_
 show spD K φ n f ((v :: vs) ++ []) H1 Q E
 rw [List.append_nil]
 exact ⟨O, ds, vs, Qd, S.ok, hφ, s1.p S.p, hn, by rw [show v = O.v from hh], is, q1, fun r qr v H' s2 o2 => k v H' r (s1.trans s2) (o2.ahead S.ok S.p s1) qr⟩
theorem spO_len {φ : Ob → Prop} {n : Nat} {f : List PyData → (R → Prop) → Prop} {ps : List Str} (hn : ps.length = n) : ∀ vs H Q E, spO K φ n f vs H Q E → vs.length = ps.length := fun vs H Q E zz => by obtain ⟨O, ds, _, _, _, _, h, is, _⟩ := zz; rw [is.length, h, hn]
theorem spD_len {φ : Ob → Prop} {n : Nat} {f : List PyData → (R → Prop) → Prop} {ps : List Str} (hn : ps.length = n + 1) : ∀ vs H Q E, spD K φ n f vs H Q E → vs.length = ps.length := fun vs H Q E zz => by obtain ⟨O, ds, ws, _, _, _, _, h, e, is, _⟩ := zz; rw [e, List.length_cons, is.length, h, hn]
end
end L3
namespace L3
open PySem PySem.Spec
open PyProof.Rows hiding St
open L2
section
variable {X : Cx}
def rEqD (K : PySem.W.Frag) (neg : Bool) : R2 := fun x y H Q => ∃ F G d e, Is K F H x d ∧ Is K G H y e ∧ d.canLay0 = true ∧ e.canLay0 = true ∧ d.depth ≤ 60 ∧ Q (.bl (if neg then !PyData.eqv d e else PyData.eqv d e)) H
theorem op_eqD (hu : X.A.units + 64 < cLine) : OpR X (compareOp .Eq) (rEqD X.K false) := by
 intro pins s σ H x y v u Q I rx ry h
 obtain ⟨F, G, d, e, i1, i2, h1, h2, h3, q⟩ := h
 obtain ⟨as, ra⟩ := i1.reads I rx
 obtain ⟨bs, rb⟩ := i2.reads I ry
 exact SeqAt.compareEq_reads ra rb h1 h2 (by omega) ⟨.bl _, H, I, rfl, q⟩
theorem op_neD (hu : X.A.units + 64 < cLine) : OpR X (compareOp .NotEq) (rEqD X.K true) := by
 intro pins s σ H x y v u Q I rx ry h
 obtain ⟨F, G, d, e, i1, i2, h1, h2, h3, q⟩ := h
 obtain ⟨as, ra⟩ := i1.reads I rx
 obtain ⟨bs, rb⟩ := i2.reads I ry
 exact SeqAt.compareNe_reads ra rb h1 h2 (by omega) ⟨.bl _, H, I, rfl, q⟩
def rInD (K : PySem.W.Frag) (neg : Bool) : R2 := fun x y H Q => ∃ F G d es, Is K F H x d ∧ (Is K G H y (.list es) ∨ Is K G H y (.tuple es)) ∧ d.canLay0 = true ∧ PyData.canLayAll0 es = true ∧ d.depth ≤ 60 ∧
 Q (.bl (if neg then !es.any (fun y => PyData.eqv y d) else es.any fun y => PyData.eqv y d)) H
theorem op_inD (hu : X.A.units + 64 < cLine) : OpR X (compareOp .In) (rInD X.K false) := by
 intro pins s σ H x y v u Q I rx ry h
 obtain ⟨F, G, d, es, i1, i2, h1, h2, h3, q⟩ := h
 obtain ⟨as, ra⟩ := i1.reads I rx
 rcases i2 with i2 | i2
 · obtain ⟨bs, rb⟩ := i2.reads I ry
   exact SeqAt.in_list_reads rb ra h2 h1 (by omega) ⟨.bl _, H, I, rfl, q⟩
 · obtain ⟨bs, rb⟩ := i2.reads I ry
   exact SeqAt.in_tuple_reads rb ra h2 h1 (by omega) ⟨.bl _, H, I, rfl, q⟩
theorem vals_bl : ∀ {bs : List Bool} {us : List Value}, Vals (bs.map V.bl) us → us = bs.map Value.bool
 | [], _, r => by cases r; rfl
 | b :: bs, _, r => by
   rw [List.map_cons] at r
   cases r with
   | cons h t => rw [vals_bl t, show _ = Value.bool b from h]; rfl
theorem all_range {bs : List Bool} : (List.range bs.length).all (fun i => bs[i]?.getD false) = bs.all id := by
 apply Bool.eq_iff_iff.mpr
 rw [List.all_eq_true, List.all_eq_true]
 constructor
 · intro h x hx
   obtain ⟨i, hi, e⟩ := List.mem_iff_getElem.mp hx
   have := h i (by simpa using hi)
   rw [List.getElem?_eq_getElem hi] at this
   rw [← e]; simpa using this
 · intro h i hi
   have hi' : i < bs.length := by simpa using hi
   rw [List.getElem?_eq_getElem hi']
   simpa using h _ (List.getElem_mem hi')
def rAll (any : Bool) : List V → Hp → VK → Prop := fun xs H Q => ∃ (p : Addr) (bs : List Bool), xs = [.ref p] ∧ H p = some (.lst (bs.map V.bl)) ∧ Q (.bl (if any then bs.any id else bs.all id)) H
theorem call_allL (hc : X.calm = true) : CallR X (.builtin "all") (rAll false) := by
 intro pins s σ H xs us Q I r h
 obtain ⟨p, bs, rfl, hH, q⟩ := h
 obtain ⟨u, rfl, ru⟩ := Vals.one r
 cases ru
 obtain ⟨z, its, n, rv, hl, e⟩ := I.lstM hH
 have ei := vals_bl rv
 subst ei
 have pl : s.heap.IsList p (bs.map Value.bool).toArray := ⟨_, e, rfl, _, rfl⟩
 have hne : p ≠ s.heap.objs.size := Nat.ne_of_lt (Heap.lt_size e)
 refine call_all_walk (wpAny_pyIter_list pl ?_)
 refine ⟨s.heap.objs.size, _, _, _, _, _, fun i => bs[i]?.getD false, rfl, Walks.list (A := X.A.in1) (I.ok.hd hc) _ p hne (bs.map Value.bool).toArray, ⟨⟨_, Heap.get?_push_size _ rfl, rfl, rfl⟩, _, Heap.get?_push_of_some _ e, rfl, _, rfl⟩, ?_, fun h' tk kk => ?_⟩
 · intro i v s' Q' E' hv hq
   have hv : (bs.map Value.bool).toArray[i]? = some v := hv
   rw [List.getElem?_toArray, List.getElem?_map] at hv
   obtain ⟨b, hb, rfl⟩ := Option.map_eq_some_iff.mp hv
   have hq : Q' (bs[i]?.getD false) s' := hq
   rw [hb] at hq
   exact wpAny_truthy_bool hq
 · have I1 : Inv X pins σ H { s with heap := h', toks := tk } := I.kept fun b o eb => kk b o (by simp; exact Nat.ne_of_lt (Heap.lt_size eb)) (Heap.get?_push_of_some _ eb)
   refine ⟨.bl _, H, I1, ?_, q⟩
   show Value.bool _ = Value.bool _
   rw [List.size_toArray, List.length_map, all_range]
   rfl
theorem vals_str : ∀ {ys : List Str} {us : List Value}, Vals (ys.map V.str) us → StrsAre us ys
 | [], _, r => by cases r; exact .nil
 | y :: ys, _, r => by
   rw [List.map_cons] at r
   cases r with
   | cons h t => obtain ⟨tk, rfl⟩ := h; exact .cons y tk (vals_str t)
theorem vals_of_strs : ∀ {ys : List Str} {us : List Value}, StrsAre us ys → Vals (ys.map V.str) us
 | _, _, .nil => .nil
 | _, _, .cons y t r => .cons ⟨t, rfl⟩ (vals_of_strs r)
def rJoin : V → List V → Hp → VK → Prop := fun x vs H Q => ∃ sep p ys, x = .str sep ∧ vs = [.ref p] ∧ H p = some (.lst (ys.map V.str)) ∧ (ys.map (·.length)).sum + ys.length * sep.length ≤ 16777216 ∧ Q (.str (Txt.join sep ys)) H
theorem mt_join : MtM X "str.join" rJoin := by
 intro pins s σ H x vs v us Q I rx rv h
 obtain ⟨sep, p, ys, rfl, rfl, hH, hz, q⟩ := h
 obtain ⟨t, rfl⟩ := rx
 obtain ⟨u, rfl, ru⟩ := rv.one
 cases ru
 obtain ⟨z, its, n, r, hl, e⟩ := I.lstM hH
 exact join_list ⟨_, e, rfl, _, rfl⟩ (by simpa using vals_str r) hz fun t' k => ⟨.str _, H, I.tok _, ⟨_, rfl⟩, q⟩
def rSortS : List V → Hp → VK → Prop := fun xs H Q => ∃ p ys, xs = [.ref p] ∧ H p = some (.lst (ys.map V.str)) ∧ ys.length < 64 ∧ ∀ zs l, zs.Perm ys → sortedS zs = true → H l = none → Q (.ref l) (upd H l (.lst (zs.map V.str)))
theorem call_sortS : CallR X (.builtin "sorted") rSortS := by
 intro pins s σ H xs us Q I r h
 obtain ⟨p, ys, rfl, hH, hz, q⟩ := h
 obtain ⟨u, rfl, ru⟩ := Vals.one r
 cases ru
 obtain ⟨z, its, n, rv, hl, e⟩ := I.lstM hH
 refine sorted_strs (ss := ys) ⟨_, e, rfl, _, rfl⟩ (vals_str rv) (by rw [← hl, List.length_map]; exact hz) fun out zs h1 h2 h3 => ?_
 obtain ⟨c, he⟩ := sortedAll_at s.heap its out
 have hn : H (s.heap.objs.size + 1) = none := I.hok.fresh (Nat.le_succ _)
 refine ⟨.ref _, _, I.laid (a := s.heap.objs.size + 1) (o := .lst (zs.map V.str)) (t' := s.toks) (fun b o eb => sortedAll_old eb) (Nat.le_succ _) ?_, rfl, q zs _ h2 h3 hn⟩
 refine ⟨?_, out.toList, c, vals_of_strs h1, by simpa using he⟩
 rw [List.length_map, h2.length_eq]
 have : sizeLine = 16777216 := sizeLine_eq
 omega
theorem items_vals {P : Nat → Value → Prop} {acc : Array Value} {ys : List V} (h : ItemsOf P acc ys.length) (hv : ∀ i v, P i v → ∃ y, ys[i]? = some y ∧ RelV y v) : Vals ys acc.toList := by
 have go : ∀ (k : Nat) (zs : List V) (l : List Value), zs.length = l.length → (∀ (i : Nat) v, l[i]? = some v → ∃ y, zs[i]? = some y ∧ RelV y v) → Vals zs l := by
   intro k zs l
   induction l generalizing zs with
   | nil => intro e _; cases zs with
     | nil => exact .nil
     | cons _ _ => simp at e
   | cons a l ih => intro e hh; cases zs with
     | nil => simp at e
     | cons z zs =>
       obtain ⟨y, h1, h2⟩ := hh 0 a rfl
       simp at h1
       subst h1
       exact .cons h2 (ih zs (by simpa using e) fun i v ev => by simpa using hh (i + 1) v (by simpa using ev))
 refine go 0 ys acc.toList (by have e := h.1; simp [e]) fun i v e => hv i v (h.2 i v (by simpa using e))
def rListS : List V → Hp → VK → Prop := fun xs H Q => ∃ x : Str, xs = [.str x] ∧ x.cps.size ≤ sizeLine ∧ ∀ l, H l = none → Q (.ref l) (upd H l (.lst (x.cps.toList.map fun c => V.str (sg c))))
theorem call_listS (hc : X.calm = true) : CallR X (.type "list") rListS := by
 intro pins s σ H xs us Q I r h
 obtain ⟨x, rfl, hz, q⟩ := h
 obtain ⟨u, rfl, ru⟩ := Vals.one r
 obtain ⟨t, rfl⟩ := ru
 refine call_list_str (I.ok.hd hc) x t (fun h' tk acc c kk e it => ?_) hz
 refine ⟨.ref _, _, I.laid (a := s.heap.objs.size) (o := .lst (x.cps.toList.map fun c => V.str (sg c))) kk (Nat.le_refl _) ?_, rfl, q _ I.fresh⟩
 refine ⟨by simpa using hz, acc.toList, c, items_vals (P := SignAt x) (by simpa using it) fun i v hv => ?_, by simpa using e⟩
 obtain ⟨cc, uu, h1, rfl⟩ := hv
 exact ⟨.str (sg cc), by rw [List.getElem?_map]; simp [h1], ⟨uu, rfl⟩⟩
def rRepr (K : PySem.W.Frag) : List V → Hp → VK → Prop := fun xs H Q => ∃ v F d, xs = [v] ∧ Is K F H v d ∧ d.showable = true ∧ d.hasDict = false ∧ d.depth ≤ 60 ∧ d.shown.length ≤ sizeLine ∧ Q (.str d.shown) H
theorem call_reprD (hg : X.A.guards = some []) (hu : X.A.units + 64 < cLine) : CallR X (.builtin "repr") (rRepr X.K) := by
 intro pins s σ H xs us Q I r h
 obtain ⟨v, F, d, rfl, i, h1, h2, h3, h4, q⟩ := h
 obtain ⟨u, rfl, ru⟩ := Vals.one r
 have fin : ∀ h' u tk, (∀ b o, s.heap.get? b = some o → h'.get? b = some o) → EP X pins σ Q (.str d.shown u) { s with heap := h', toks := tk } := fun h' u tk kk => ⟨.str _, H, I.kept kk, ⟨_, rfl⟩, q⟩
 have fin' : ∀ u tk, EP X pins σ Q (.str d.shown u) { s with toks := tk } := fun u tk => ⟨.str _, H, I.tok _, ⟨_, rfl⟩, q⟩
 obtain ⟨as, ra⟩ := i.reads I ru
 cases i with
 | none => cases ru; exact PySem.P.repr_of_none (fin' _ _)
 | bool b => cases ru; exact PySem.P.repr_of_bool (fin' _ _)
 | int n => obtain ⟨t, rfl⟩ := ru; exact PySem.P.repr_of_int (by simpa [PyData.showable] using h1) (fin' _ _)
 | str x => obtain ⟨t, rfl⟩ := ru; exact PySem.P.repr_of_str (fin' _ _) h4
 | list _ _ _ => cases ru; exact repr_of_reads' ra h1 (fun z => by rw [h2] at z; cases z) hg (by omega) (fun _ _ e => e) fin h4
 | tuple _ _ => cases ru; exact repr_of_reads' ra h1 (fun z => by rw [h2] at z; cases z) hg (by omega) (fun _ _ e => e) fin h4
end
end L3
namespace L3
open PySem PySem.Spec
open PyProof.Rows hiding St
open L2
def tx (l : List Nat) : Str := ⟨l.toArray⟩
theorem tx_cps (x : Str) : tx x.cps.toList = x := by cases x; simp [tx]
theorem tx_toList (l : List Nat) : (tx l).cps.toList = l := by simp [tx]
theorem tx_length (l : List Nat) : (tx l).length = l.length := by simp [tx, Str.length]
def cutL {α : Type} (xs : List α) (lo hi : Option Int) : List α := (xs.drop (HT.sIx xs.length 0 lo)).take (HT.sIx xs.length xs.length hi - HT.sIx xs.length 0 lo)
theorem sIx_clip (n d : Nat) (v : Int) : max (0 : Int) (min (if v < 0 then v + n else v) n) = ((HT.sIx n d (some v) : Nat) : Int) := by
 rw [← HT.clip_eq v n d]
 by_cases h : v < 0
 · rw [if_pos h, if_pos h]; omega
 · rw [if_neg h, if_neg h]; omega
theorem slice_range (lo hi : Option Int) (n : Nat) : Builtin.Str.strSliceIndices lo hi 1 n = (List.range (HT.sIx n n hi - HT.sIx n 0 lo)).map fun k => HT.sIx n 0 lo + k := by
 have e1 : (match lo with | none => (0 : Int) | some i => max 0 (min (if i < 0 then i + (n : Int) else i) n)) = ((HT.sIx n 0 lo : Nat) : Int) := by
   cases lo with
   | none => rfl
   | some v => exact sIx_clip n 0 v
 have e2 : (match hi with | none => (n : Int) | some i => max 0 (min (if i < 0 then i + (n : Int) else i) n)) = ((HT.sIx n n hi : Nat) : Int) := by
   cases hi with
   | none => rfl
   | some v => exact sIx_clip n n v
 have e0 : Builtin.Str.strSliceIndices lo hi 1 n = sliceRange ((HT.sIx n 0 lo : Nat) : Int) ((HT.sIx n n hi : Nat) : Int) 1 := by
   rw [← e1, ← e2]
   cases lo <;> cases hi <;> rfl
 rw [e0]
 generalize HT.sIx n 0 lo = a
 generalize HT.sIx n n hi = b
 simp only [sliceRange, show ((1 : Int) > 0) = True from by simp, if_true]
 by_cases hlt : (a : Int) < b
 · have e3 : (((b : Int) - a + 1 - 1) / 1).toNat = b - a := by first | omega | (simp; done) | (simp; omega)
   simp only [hlt, if_true, e3]
   refine List.map_congr_left fun k _ => ?_
   omega
 · have : b - a = 0 := by omega
   simp [hlt, this]
theorem picks' {α : Type} (l : List α) : ∀ (n a : Nat), a + n ≤ l.length → ((List.range n).map fun k => a + k).filterMap (fun i => l[i]?) = (l.drop a).take n
 | 0, _, _ => by simp
 | n + 1, a, h => by
   have hlt : a + n < l.length := by omega
   rw [List.range_succ, List.map_append, List.filterMap_append, picks' l n a (by omega), List.take_add_one, List.getElem?_drop]
   simp [List.getElem?_eq_getElem hlt]
section
variable {X : Cx}
def rSlS : V → Option Int → Option Int → Hp → VK → Prop := fun x lo hi H Q => ∃ z : Str, x = .str z ∧ z.length ≤ sizeLine ∧ Q (.str (tx (cutL z.cps.toList lo hi))) H
theorem sl_str : SlR X rSlS := by
 intro pins s σ H x v vl vu lo hi sl Q I rx hs pl pu h
 obtain ⟨z, rfl, hz, q⟩ := h
 obtain ⟨t, rfl⟩ := rx
 refine ⟨"str", _, PySem.F.slot_str_getitem.lookup, typeIs_str s z t, ?_⟩
 have hl : z.cps.toList.length = z.length := by simp [Str.length]
 have hi' : HT.sIx z.length z.length hi ≤ z.length := HT.sIx_le _ _ (Nat.le_refl _) hi
 have key : ∀ l u : Option (Int × Tok), l.map (·.1) = lo → u.map (·.1) = hi → s.heap.IsSlice sl l u none → wpAny (model X.prog X.w) X.A (getItem (.str z t) (.ref sl)) (EP X pins σ Q) X.xe s := by
   intro l u el eu hsl
   have e : slicePicked z l u none = (List.range (HT.sIx z.length z.length hi - HT.sIx z.length 0 lo)).map fun k => HT.sIx z.length 0 lo + k := by
     unfold slicePicked
     rw [el, eu]
     exact slice_range lo hi z.length
   have ec : tx (cutL z.cps.toList lo hi) = ⟨((slicePicked z l u none).filterMap (z.cps[·]?)).toArray⟩ := by
     rw [e]
     unfold cutL tx
     rw [hl]
     by_cases hij : HT.sIx z.length 0 lo ≤ HT.sIx z.length z.length hi
     · have p := picks' z.cps.toList (HT.sIx z.length z.length hi - HT.sIx z.length 0 lo) (HT.sIx z.length 0 lo) (by rw [hl]; omega)
       rw [← p]
       simp
     · have : HT.sIx z.length z.length hi - HT.sIx z.length 0 lo = 0 := by omega
       rw [this]
       simp
   refine wpAny_getItem_str_slice hsl rfl ?_
   unfold sliceMade
   split
   · rename_i hc
     have hw : (slicePicked z l u none).length = z.length := by simpa using hc
     have ex : tx (cutL z.cps.toList lo hi) = z := by
       rw [e, List.length_map, List.length_range] at hw
       unfold cutL
       rw [hl]
       have h0 : HT.sIx z.length 0 lo = 0 ∨ z.length = 0 := by omega
       rcases h0 with h0 | h0
       · rw [h0] at hw ⊢
         rw [List.drop_zero, List.take_of_length_le (by rw [hl]; omega)]
         exact tx_cps z
       · have hn : z.cps.toList = [] := List.eq_nil_of_length_eq_zero (by rw [hl]; exact h0)
         rw [hn]
         simp only [List.drop_nil, List.take_nil]
         rw [← hn]
         exact tx_cps z
     exact ⟨.str _, H, I, ⟨t, by rw [ex]⟩, q⟩
   · rw [← ec]
     have hlen : (tx (cutL z.cps.toList lo hi)).length ≤ sizeLine := by
       rw [tx_length]
       unfold cutL
       rw [List.length_take, List.length_drop, hl]
       omega
     first
       | exact ⟨.str _, H, I.tok _, ⟨_, rfl⟩, q⟩
       | exact ⟨hlen, .str _, H, I.tok _, ⟨_, rfl⟩, q⟩
       | exact fun _ => ⟨.str _, H, I.tok _, ⟨_, rfl⟩, q⟩
 obtain ⟨o, ho, hc, hd⟩ := hs
 cases pl with
 | none => cases pu with
   | none => exact key none none rfl rfl ⟨o, ho, hc, hd⟩
   | int j t' => exact key none (some (j, t')) rfl rfl ⟨o, ho, hc, hd⟩
 | int i ti => cases pu with
   | none => exact key (some (i, ti)) none rfl rfl ⟨o, ho, hc, hd⟩
   | int j t' => exact key (some (i, ti)) (some (j, t')) rfl rfl ⟨o, ho, hc, hd⟩
def rSlTW (K : PySem.W.Frag) : V → Option Int → Option Int → Hp → VK → Prop := fun x lo hi H Q => ∃ a xs, x = .ref a ∧ SqT K H a xs ∧ (HT.sIx xs.length 0 lo = 0 ∧ HT.sIx xs.length xs.length hi = xs.length) ∧ Q (.ref a) H
theorem getItem_tuple_whole {prog : Program} {w : World} {A : Around} {E : Value → Shared → Prop} {s : Shared} {t sl : Addr} {items : Array Value} {vl vu : Value} {lo hi : Option Int} {Q : Value → Shared → Prop} (ht : IsTup s.heap t items) (hs : s.heap.IsSliceOf sl vl vu .none) (pl : IsPart vl lo) (pu : IsPart vu hi)
   (hw : HT.sIx items.size 0 lo = 0 ∧ HT.sIx items.size items.size hi = items.size) (h : Q (.ref t) s) : wpAny (model prog w) A (getItem (.ref t) (.ref sl)) Q E s := by
 obtain ⟨os, hos, hcs, hds⟩ := id hs
 have hTs : s.TypeIs (.ref sl) "slice" := ⟨os, hos, hcs⟩
 unfold getItem
 try with_reducible refine wpAny_holding ?_
 first | refine wpAny_bind (wpAny_pure ?_) | skip
 refine wpAny_bind (wpAny_sequenceKey ht.typeIs (by decide) ?_)
 refine wpAny_bind (wpAny_callSpecial?_slot (name := Str.ofString "__getitem__") ht.typeIs PyProof.Rows.slot_tuple_getitem
   (wpAny_call_entry PyProof.Rows.slot_tuple_getitem ht.typeIs entry_tuple_getitem ?_ (args_tuple_getitem _ _)))
 show wpAny _ _ (Builtin.Tuple.tupleItemsOf (.ref t) >>= _) _ _ s
 refine wpAny_bind (tupleItemsOf_ ht ?_)
 refine wpAny_bind (wpAny_typeOf hTs ?_)
 rw [if_pos (by decide)]
 refine wpAny_bind (HT.sliceApplied_gen hs pl pu ?_)
 have hno : (((HT.sIx items.size 0 lo : Nat) : Int) == 0 && (1 : Int) == 1 && (HT.sIx items.size items.size hi - HT.sIx items.size 0 lo) == items.size) = true := by
   rw [hw.1, hw.2]
   simp
 show wpAny _ _ (if (((HT.sIx items.size 0 lo : Nat) : Int) == 0 && (1 : Int) == 1 && (HT.sIx items.size items.size hi - HT.sIx items.size 0 lo) == items.size) = true then _ else _) _ _ s
 rw [if_pos hno]
 obtain ⟨o, ho, hc, n, hd⟩ := id ht
 refine wpAny_bind ?_
 unfold Builtin.Tuple.tupleIsExact
 refine wpAny_bind (wpAny_typeOf ht.typeIs (wpAny_pure ?_))
 show wpAny _ _ (if ((Value.type "tuple") == (Value.type "tuple")) = true then _ else _) _ _ s
 rw [if_pos (by decide)]
 exact wpAny_bind (wpAny_rule (wpAny_pure ⟨_, rfl, wpAny_pure h⟩))
theorem sl_tupW : SlR X (rSlTW X.K) := by
 intro pins s σ H x v vl vu lo hi sl Q I rx hs pl pu h
 obtain ⟨a, xs, rfl, hx, hw, q⟩ := h
 cases rx
 obtain ⟨its, r, ht, hz⟩ := I.tuple hx
 have hlen : its.toArray.size = xs.length := by rw [List.size_toArray]; exact r.length.symm
 exact ⟨"tuple", _, PyProof.Rows.slot_tuple_getitem.lookup, ht.typeIs, getItem_tuple_whole ht hs pl pu (by rw [hlen]; exact hw) ⟨.ref a, H, I, rfl, q⟩⟩
def rSl (K : PySem.W.Frag) : V → Option Int → Option Int → Hp → VK → Prop := fun x lo hi H Q => rSlL K x lo hi H Q ∨ rSlT K x lo hi H Q ∨ rSlTW K x lo hi H Q ∨ rSlS x lo hi H Q
theorem sl_any : SlR X (rSl X.K) := sl_list.or (sl_tup.or (sl_tupW.or sl_str))
def rCatT0 (K : PySem.W.Frag) : R2 := fun x y H Q => ∃ a b ys, x = .ref a ∧ y = .ref b ∧ SqT K H a [] ∧ SqT K H b ys ∧ Q (.ref b) H
theorem op_catT0 : OpR X (binaryOp .Add) (rCatT0 X.K) := by
 intro pins s σ H x y v u Q I rx ry h
 obtain ⟨a, b, ys, rfl, rfl, ha, hb, q⟩ := h
 cases rx
 cases ry
 obtain ⟨its, r1, p1, _⟩ := I.tuple ha
 obtain ⟨its2, r2, p2, _⟩ := I.tuple hb
 cases r1
 obtain ⟨⟨cls, dd, data, sl⟩, ho, hc, n, hd⟩ := id p1
 obtain ⟨⟨cls2, dd2, data2, sl2⟩, ho2, hc2, n2, hd2⟩ := id p2
 simp only at hc hd hc2 hd2
 subst hc hd hc2 hd2
 exact concat_meets ⟨_, ho, rfl⟩ ⟨_, ho2, rfl⟩ noFill_tuple_add seq_tuple_add PySem.F.slot_tuple_add PySem.F.entry_tuple_add (PySem.F.args_tuple_add_2 _ _)
   (tuple_addW0 a b _ its2.toArray n n2 dd dd2 sl sl2 (by simp)) ⟨ho, ho2, ⟨.ref b, H, I, rfl, q⟩⟩
end
end L3
namespace L3
open PySem PySem.Spec
open PyProof.Rows hiding St
open L2
section
variable {K : PySem.W.Frag} {O : Ob} {F : Addr → Prop} {H : Hp}
theorem isAll_strs : ∀ {vs : List V} {ys : List Str}, IsAll K F H vs (ys.map .str) → vs = ys.map V.str
 | _, [], h => by cases h; rfl
 | _, y :: ys, h => by
   rw [List.map_cons] at h
   cases h with
   | cons h1 h2 => cases h1; rw [isAll_strs h2]; rfl
theorem isAll_bools : ∀ {vs : List V} {bs : List Bool}, IsAll K F H vs (bs.map .bool) → vs = bs.map V.bl
 | _, [], h => by cases h; rfl
 | _, y :: ys, h => by
   rw [List.map_cons] at h
   cases h with
   | cons h1 h2 => cases h1; rw [isAll_bools h2]; rfl
theorem isAll_atI {vs : List V} {ds : List PyData} {i : Int} {d : PyData} (h : IsAll K F H vs ds) (e : atI ds i = some d) : ∃ v, atI vs i = some v ∧ Is K F H v d := by
 unfold atI at e ⊢
 rw [h.length]
 cases q : ixN ds.length i with
 | none => rw [q] at e; cases e
 | some j =>
   rw [q] at e
   obtain ⟨v, hv, iv⟩ := h.get (i := j) e
   exact ⟨v, hv, iv⟩
theorem isAll_cut {vs : List V} {ds : List PyData} (h : IsAll K F H vs ds) (lo hi : Option Int) : IsAll K F H (cutV vs lo hi) (cutL ds lo hi) := by
 unfold cutV cutL
 rw [h.length]
 exact (h.drop _).take _
theorem out_list {H : Hp} {p : Addr} {vs : List V} {ds : List PyData} (ok : O.Ok) (hp : H p = none) (h : IsAll K (unM O) H vs ds) : Stp O H (upd H p (.lst vs)) ∧ Out K O H (upd H p (.lst vs)) (.ref p) (.n ds) := by
 have s : Stp O H (upd H p (.lst vs)) := .new ok hp _
 exact ⟨s, p, vs, rfl, hp, upd_same, h.stp s (fun _ z => z) (fun _ z => z)⟩
theorem out_tup {H : Hp} {p : Addr} {vs : List V} {ds : List PyData} (ok : O.Ok) (hp : H p = none) (h : IsAll K (unM O) H vs ds) : Stp O H (upd H p (.tup vs)) ∧ Out K O H (upd H p (.tup vs)) (.ref p) (.o (.tuple ds)) := by
 have s : Stp O H (upd H p (.tup vs)) := .new ok hp _
 exact ⟨s, Is.tuple (.of upd_same) (h.stp s (fun _ z => z) (fun _ z => z))⟩
def okD (d : PyData) : Bool := d.canLay0 && decide (d.depth ≤ 60)
def eqF (neg : Bool) : PyData → PyData → Option R := fun d e => if (okD d && e.canLay0) = true then some (.o (.bool (if neg then !PyData.eqv d e else PyData.eqv d e))) else none
theorem opd_eq (neg : Bool) : OpD K O (rEqD K neg) (fn2 (eqF neg)) := fun H x y d e Q Qd ok p ix iy ⟨r, hr, q⟩ k => by
 unfold eqF at hr
 split at hr
 · rename_i hc
   cases hr
   simp only [Bool.and_eq_true, okD, decide_eq_true_eq] at hc
   exact ⟨_, _, d, e, ix, iy, hc.1.1, hc.2, hc.1.2, k _ H (.o _) (.refl _ _) (Is.bool _) q⟩
 · cases hr
def inF (neg : Bool) : PyData → PyData → Option R := fun d e => match d, e with
 | .str x, .str y => some (.o (.bool (if neg then !(!(Builtin.Str.occurrences y x 0 y.length 1).isEmpty) else !(Builtin.Str.occurrences y x 0 y.length 1).isEmpty)))
 | d, .list es => if (okD d && PyData.canLayAll0 es) = true then some (.o (.bool (if neg then !es.any (fun y => PyData.eqv y d) else es.any fun y => PyData.eqv y d))) else none
 | d, .tuple es => if (okD d && PyData.canLayAll0 es) = true then some (.o (.bool (if neg then !es.any (fun y => PyData.eqv y d) else es.any fun y => PyData.eqv y d))) else none
 | _, _ => none
def rInU (K : PySem.W.Frag) : R2 := fun x y H Q => (∃ i j, x = .str i ∧ y = .str j ∧ Q (.bl (!(Builtin.Str.occurrences j i 0 j.length 1).isEmpty)) H) ∨ rInD K false x y H Q
theorem op_inU {X : Cx} (hu : X.A.units + 64 < cLine) : OpR X (compareOp .In) (rInU X.K) := op_in_str.or (op_inD hu)
theorem opd_inS {neg : Bool} {H : Hp} {x y : V} {d e : PyData} {Q : VK} {Qd : R → Prop} (ix : Is K (unM O) H x d) (iy : Is K (unM O) H y e) (q : fn2 (inF neg) d e Qd) (k : ∀ v H' r, Stp O H H' → Out K O H H' v r → Qd r → Q v H') :
   (∃ i j, x = .str i ∧ y = .str j ∧ Q (.bl (if neg then !(!(Builtin.Str.occurrences j i 0 j.length 1).isEmpty) else !(Builtin.Str.occurrences j i 0 j.length 1).isEmpty)) H) ∨ rInD K neg x y H Q := by
 obtain ⟨r, hr, q⟩ := q
 unfold inF at hr
 split at hr
 · rename_i a b
   cases ix
   cases iy
   cases hr
   exact .inl ⟨a, b, rfl, rfl, k _ H (.o _) (.refl _ _) (Is.bool _) q⟩
 · split at hr
   · rename_i hc
     cases hr
     simp only [Bool.and_eq_true, okD, decide_eq_true_eq] at hc
     exact .inr ⟨_, _, _, _, ix, .inl iy, hc.1.1, hc.2, hc.1.2, k _ H (.o _) (.refl _ _) (Is.bool _) q⟩
   · cases hr
 · split at hr
   · rename_i hc
     cases hr
     simp only [Bool.and_eq_true, okD, decide_eq_true_eq] at hc
     exact .inr ⟨_, _, _, _, ix, .inr iy, hc.1.1, hc.2, hc.1.2, k _ H (.o _) (.refl _ _) (Is.bool _) q⟩
   · cases hr
 · cases hr
theorem opd_in : OpD K O (rInU K) (fn2 (inF false)) := fun H x y d e Q Qd ok p ix iy q k => opd_inS ix iy q k
def intF (g : Int → Int → PyData) : PyData → PyData → Option R
 | .int i, .int j => some (.o (g i j))
 | _, _ => none
theorem opd_int0 {g : Int → Int → V} {G : Int → Int → PyData} (h : ∀ i j H, Is K (unM O) H (g i j) (G i j)) : OpD K O (rI0 g) (fn2 (intF G)) := fun H x y d e Q Qd ok p ix iy ⟨r, hr, q⟩ k => by
 unfold intF at hr
 split at hr
 · cases ix
   cases iy
   cases hr
   exact ⟨_, _, rfl, rfl, k _ H (.o _) (.refl _ _) (h _ _ H) q⟩
 · cases hr
theorem opd_sub : OpD K O (rI0 fun i j => .int (i - j)) (fn2 (intF fun i j => .int (i - j))) := opd_int0 fun _ _ _ => .int _
theorem opd_lt : OpD K O (rI0 fun i j => .bl (decide (i < j))) (fn2 (intF fun i j => .bool (decide (i < j)))) := opd_int0 fun _ _ _ => .bool _
theorem opd_le : OpD K O (rI0 fun i j => .bl (decide (i ≤ j))) (fn2 (intF fun i j => .bool (decide (i ≤ j)))) := opd_int0 fun _ _ _ => .bool _
def isNF (neg : Bool) : PyData → PyData → (R → Prop) → Prop := fun d e Q => e = .none ∧ Q (.o (.bool (match d with | .none => !neg | _ => neg)))
theorem Is.non {v : V} {d : PyData} (h : Is K F H v d) : decide (v = .non) = (match d with | .none => true | _ => false) := by cases h <;> rfl
theorem opd_isN : OpD K O (fun x y H Q => y = .non ∧ Q (.bl (decide (x = .non))) H) (isNF false) := fun H x y d e Q Qd ok p ix iy ⟨e1, q⟩ k => by
 subst e1
 cases iy
 refine ⟨rfl, k _ H (.o _) (.refl _ _) ?_ q⟩
 rw [ix.non]
 cases d <;> exact Is.bool _
def rAddU (K : PySem.W.Frag) : R2 := fun x y H Q => rI0 (fun i j => .int (i + j)) x y H Q ∨ (∃ i j, x = .str i ∧ y = .str j ∧ i.length + j.length ≤ sizeLine ∧ Q (.str (i ++ j)) H) ∨ rCat x y H Q ∨ rCatT K x y H Q ∨ rCatT0 K x y H Q
theorem op_addU {X : Cx} : OpR X (binaryOp .Add) (rAddU X.K) := op_add.or (op_add_str.or (op_cat.or (op_catT.or op_catT0)))
def addF : PyData → PyData → Option R := fun d e => match d, e with
 | .int i, .int j => some (.o (.int (i + j)))
 | .str x, .str y => if x.length + y.length ≤ sizeLine then some (.o (.str (x ++ y))) else none
 | .list a, .list b => if a.length + b.length ≤ sizeLine then some (.n (a ++ b)) else none
 | .tuple a, .tuple b => if a.length + b.length ≤ sizeLine then some (.o (.tuple (a ++ b))) else none
 | _, _ => none
theorem opd_add : OpD K O (rAddU K) (fn2 addF) := fun H x y d e Q Qd ok p ix iy ⟨r, hr, q⟩ k => by
 unfold addF at hr
 split at hr
 · cases ix
   cases iy
   cases hr
   exact .inl ⟨_, _, rfl, rfl, k _ H (.o _) (.refl _ _) (Is.int _) q⟩
 · split at hr
   · rename_i hz
     cases ix
     cases iy
     cases hr
     exact .inr (.inl ⟨_, _, rfl, rfl, hz, k _ H (.o _) (.refl _ _) (Is.str _) q⟩)
   · cases hr
 · split at hr
   · rename_i hz
     cases hr
     cases ix with
     | list f1 h1 s1 =>
       cases iy with
       | list f2 h2 s2 =>
         refine .inr (.inr (.inl ⟨_, _, _, _, rfl, rfl, h1, h2, by rw [s1.length, s2.length]; exact hz, fun p' hp => ?_⟩))
         obtain ⟨a1, a2⟩ := out_list ok hp (s1.append s2)
         exact k _ _ _ a1 a2 q
   · cases hr
 · split at hr
   · rename_i hz
     cases hr
     cases ix with
     | tuple h1 s1 =>
       cases iy with
       | tuple h2 s2 =>
         rename_i a xs b ys
         cases xs with
         | nil =>
           cases s1
           exact .inr (.inr (.inr (.inr ⟨a, b, ys, rfl, rfl, h1, h2, k _ H (.o _) (.refl _ _) (Is.tuple h2 s2) q⟩)))
         | cons z zs =>
           refine .inr (.inr (.inr (.inl ⟨a, b, _, ys, rfl, rfl, h1, h2, by simp, by rw [s1.length, s2.length]; exact hz, fun e => ?_, fun _ p' hp => ?_⟩)))
           · subst e
             cases s2
             rw [List.append_nil] at q
             exact k _ H (.o _) (.refl _ _) (Is.tuple h1 s1) q
           · obtain ⟨a1, a2⟩ := out_tup ok hp (s1.append s2)
             exact k _ _ _ a1 a2 q
   · cases hr
 · cases hr
def idxF : PyData → PyData → Option R := fun d e => match d, e with
 | .list ds, .int i => (atI ds i).map .o
 | .tuple ds, .int i => (atI ds i).map .o
 | .str x, .int i => if x.length ≤ sizeLine then (atI x.cps.toList i).map fun c => .o (.str (sg c)) else none
 | _, _ => none
theorem opd_idx : OpD K O (rIx K) (fn2 idxF) := fun H x y d e Q Qd ok p ix iy ⟨r, hr, q⟩ k => by
 unfold idxF at hr
 split at hr
 · obtain ⟨z, hz, rfl⟩ := Option.map_eq_some_iff.mp hr
   cases iy
   cases ix with
   | list f1 h1 s1 =>
     obtain ⟨v, hv, iv⟩ := isAll_atI s1 hz
     exact .inl ⟨_, _, _, v, rfl, rfl, .of h1, hv, k v H (.o z) (.refl _ _) iv q⟩
 · obtain ⟨z, hz, rfl⟩ := Option.map_eq_some_iff.mp hr
   cases iy
   cases ix with
   | tuple h1 s1 =>
     obtain ⟨v, hv, iv⟩ := isAll_atI s1 hz
     exact .inr (.inl ⟨_, _, _, v, rfl, rfl, h1, hv, k v H (.o z) (.refl _ _) iv q⟩)
 · split at hr
   · rename_i hl
     obtain ⟨c, hc, rfl⟩ := Option.map_eq_some_iff.mp hr
     cases iy
     cases ix
     exact .inr (.inr ⟨_, _, c, rfl, rfl, hl, hc, k _ H (.o _) (.refl _ _) (Is.str _) q⟩)
   · cases hr
 · cases hr
abbrev DO := DSt → (Option Int → Prop) → Prop
def OD (K : PySem.W.Frag) (O : Ob) (t : TO) (f : DO) : Prop :=
 ∀ (σ : St) (H : Hp) (ρ : DSt) (Q : Option Int → Hp → Prop) (Qd : Option Int → Prop), Seen K O H σ ρ → f ρ Qd → (∀ o H', Stp O H H' → Qd o → Q o H') → t σ H Q
def noO : DO := fun _ Q => Q none
def someO (f : DE) : DO := fun ρ Q => f ρ fun r => ∃ i, r.d = .int i ∧ Q (some i)
theorem od_none : OD K O tNoPart noO := fun σ H ρ Q Qd S h k => k none H (.refl _ _) h
theorem od_some {t : TE} {f : DE} (h : ED K O t f) : OD K O (tPart t) (someO f) := fun σ H ρ Q Qd S hf k => by
 refine h σ H ρ _ _ S hf fun v H1 r s1 o1 ⟨i, e, q⟩ => ?_
 have iv := o1.is S.ok S.p
 rw [e] at iv
 cases iv
 exact ⟨i, rfl, k (some i) H1 s1 q⟩
def slcF (lo hi : Option Int) : PyData → Option R
 | .list ds => some (.n (cutL ds lo hi))
 | .tuple ds => some (.o (.tuple (cutL ds lo hi)))
 | .str x => if x.length ≤ sizeLine then some (.o (.str (tx (cutL x.cps.toList lo hi)))) else none
 | _ => none
def slD (f : DE) (a b : DO) : DE := fun ρ Q => f ρ fun r => a ρ fun lo => b ρ fun hi => ∃ s, slcF lo hi r.d = some s ∧ Q s
theorem ed_slice {t : TE} {tl th : TO} {f : DE} {a b : DO} (h : ED K O t f) (ha : OD K O tl a) (hb : OD K O th b) : ED K O (tSl (rSl K) t tl th) (slD f a b) := fun σ H ρ Q Qd S hf k => by
 refine h σ H ρ _ _ S hf fun v H1 r s1 o1 q1 => ?_
 refine ha σ H1 ρ _ _ (S.stp s1) q1 fun lo H2 s2 q2 => ?_
 refine hb σ H2 ρ _ _ ((S.stp s1).stp s2) q2 fun hi H3 s3 ⟨s, hr, q⟩ => ?_
 have st := (s1.trans s2).trans s3
 have iv : Is K (unM O) H3 v r.d := Is.stp (s2.trans s3) (fun _ z => z) (fun _ z => z) (o1.is S.ok S.p)
 revert hr
 generalize r.d = d at iv
 intro hr
 unfold slcF at hr
 split at hr
 · cases hr
   cases iv with
   | list f1 h1 z1 =>
     refine .inl ⟨_, _, rfl, .of h1, fun p hp => ?_⟩
     obtain ⟨a1, a2⟩ := out_list S.ok hp (isAll_cut z1 lo hi)
     exact k _ _ _ (st.trans a1) (Out.ahead S.ok S.p st a2) q
 · cases hr
   cases iv with
   | tuple h1 z1 =>
     rename_i a' xs
     by_cases hw : HT.sIx xs.length 0 lo = 0 ∧ HT.sIx xs.length xs.length hi = xs.length
     · refine .inr (.inr (.inl ⟨a', xs, rfl, h1, hw, k _ H3 (.o _) st ?_ q⟩))
       have e : cutV xs lo hi = xs := by
         unfold cutV
         rw [hw.1, hw.2, List.drop_zero, Nat.sub_zero, List.take_length]
       have z2 := isAll_cut z1 lo hi
       rw [e] at z2
       exact Is.tuple h1 z2
     · refine .inr (.inl ⟨a', xs, rfl, h1, hw, fun p hp => ?_⟩)
       obtain ⟨a1, a2⟩ := out_tup S.ok hp (isAll_cut z1 lo hi)
       exact k _ _ _ (st.trans a1) (Out.ahead S.ok S.p st a2) q
 · split at hr
   · rename_i hl
     cases hr
     cases iv
     exact .inr (.inr (.inr ⟨_, rfl, hl, k _ H3 (.o _) st (Is.str _) q⟩))
   · cases hr
 · cases hr
def lenF : List PyData → Option R
 | [.str x] => if x.length ≤ sizeLine then some (.o (.int x.length)) else none
 | [.list ds] => some (.o (.int ds.length))
 | [.tuple ds] => some (.o (.int ds.length))
 | _ => none
theorem isAll_one {vs : List V} {d : PyData} (h : IsAll K F H vs [d]) : ∃ v, vs = [v] ∧ Is K F H v d := by
 cases h with
 | cons h1 h2 => cases h2; exact ⟨_, rfl, h1⟩
theorem cd_len : CallD K O (fun xs H Q => ∃ x n, xs = [x] ∧ LenV K x H n ∧ Q (.int n) H) (fn1 lenF) := fun H vs ds Q Qd ok p is ⟨r, hr, q⟩ k => by
 unfold lenF at hr
 split at hr
 · split at hr
   · rename_i hl
     obtain ⟨v, rfl, iv⟩ := isAll_one is
     cases iv
     cases hr
     exact ⟨_, _, rfl, ⟨hl, rfl⟩, k _ H (.o _) (.refl _ _) (Is.int _) q⟩
   · cases hr
 · obtain ⟨v, rfl, iv⟩ := isAll_one is
   cases hr
   cases iv with
   | list f1 h1 s1 => exact ⟨_, _, rfl, .inl ⟨_, .of h1, s1.length.symm⟩, k _ H (.o _) (.refl _ _) (Is.int _) q⟩
 · obtain ⟨v, rfl, iv⟩ := isAll_one is
   cases hr
   cases iv with
   | tuple h1 s1 => exact ⟨_, _, rfl, .inr ⟨_, h1, s1.length.symm⟩, k _ H (.o _) (.refl _ _) (Is.int _) q⟩
 · cases hr
def allD (any : Bool) : List PyData → (R → Prop) → Prop := fun ds Q => ∃ bs : List Bool, ds = [.list (bs.map .bool)] ∧ Q (.o (.bool (if any then bs.any id else bs.all id)))
theorem cd_all (any : Bool) : CallD K O (rAll any) (allD any) := fun H vs ds Q Qd ok p is ⟨bs, e, q⟩ k => by
 subst e
 obtain ⟨v, rfl, iv⟩ := isAll_one is
 cases iv with
 | list f1 h1 s1 =>
   rw [isAll_bools s1] at h1
   exact ⟨_, bs, rfl, h1, k _ H (.o _) (.refl _ _) (Is.bool _) q⟩
def int1F : List PyData → Option R
 | [.int i] => some (.o (.int i))
 | [.bool b] => some (.o (.int (if b then 1 else 0)))
 | _ => none
theorem cd_int : CallD K O (fun xs H Q => (∃ i, xs = [.int i] ∧ Q (.int i) H) ∨ ∃ k, xs = [.bl k] ∧ Q (.int (if k then 1 else 0)) H) (fn1 int1F) := fun H vs ds Q Qd ok p is ⟨r, hr, q⟩ k => by
 unfold int1F at hr
 split at hr
 · obtain ⟨v, rfl, iv⟩ := isAll_one is
   cases hr
   cases iv
   exact .inl ⟨_, rfl, k _ H (.o _) (.refl _ _) (Is.int _) q⟩
 · obtain ⟨v, rfl, iv⟩ := isAll_one is
   cases hr
   cases iv
   exact .inr ⟨_, rfl, k _ H (.o _) (.refl _ _) (Is.int _) q⟩
 · cases hr
def reprF : List PyData → Option R
 | [d] => if (d.showable && !d.hasDict && decide (d.depth ≤ 60) && decide (d.shown.length ≤ sizeLine)) = true then some (.o (.str d.shown)) else none
 | _ => none
theorem cd_repr : CallD K O (rRepr K) (fn1 reprF) := fun H vs ds Q Qd ok p is ⟨r, hr, q⟩ k => by
 unfold reprF at hr
 split at hr
 · split at hr
   · rename_i hc
     cases hr
     obtain ⟨v, rfl, iv⟩ := isAll_one is
     simp only [Bool.and_eq_true, decide_eq_true_eq, Bool.not_eq_true'] at hc
     exact ⟨v, _, _, rfl, iv, hc.1.1.1, hc.1.1.2, hc.1.2, hc.2, k _ H (.o _) (.refl _ _) (Is.str _) q⟩
   · cases hr
 · cases hr
def joinD (fo : DE) (fa : DE) : DE := fun ρ Q => fo ρ fun r0 => ∃ sep, r0.d = .str sep ∧ fa ρ fun r => ∃ ys : List Str, r.d = .list (ys.map .str) ∧ (ys.map (·.length)).sum + ys.length * sep.length ≤ 16777216 ∧ Q (.o (.str (Txt.join sep ys)))
theorem ed_join {to ta : TE} {fo fa : DE} (ho : ED K O to fo) (ha : ED K O ta fa) : ED K O (tBM K "str" rJoin to (tCons ta tNil)) (joinD fo fa) := fun σ H ρ Q Qd S hf k => by
 refine ho σ H ρ _ _ S hf fun v H1 r0 s1 o1 ⟨sep, e0, q1⟩ => ?_
 have i0 := o1.is S.ok S.p
 rw [e0] at i0
 cases i0
 refine ⟨rfl, ?_⟩
 refine ha σ H1 ρ _ _ (S.stp s1) q1 fun w H2 r s2 o2 ⟨ys, e, hz, q⟩ => ?_
 have i1 := o2.is S.ok (s1.p S.p)
 rw [e] at i1
 cases i1 with
 | list f1 h1 z1 =>
   rw [isAll_strs z1] at h1
   exact ⟨sep, _, ys, rfl, rfl, h1, hz, k _ H2 (.o _) (s1.trans s2) (Is.str _) q⟩
end
end L3
namespace L3
open PySem PySem.Spec
open PyProof.Rows hiding St
open L2
structure Ctx3 {ι : Type} (P : Program) (w : World) (K : PySem.W.Frag) (mg : Str → Option Value) (base : Heap) (k : Nat) (X : ι → Cx) : Prop where
 hP : ∀ i, (X i).prog = P
 hw : ∀ i, (X i).w = w
 hK : ∀ i, (X i).K = K
 hmg : ∀ i, (X i).mg = mg
 hb : ∀ i, (X i).base = base
 calm : ∀ i, (X i).calm = true
 room : ∀ i, Room k (X i).A
 xe : ∀ i, (X i).xe = fun _ _ => False
def E3 {ι κ : Type} (K : PySem.W.Frag) (X : ι → Cx) (O : κ → Ob) (e : Expr) (f : DE) : Prop := ∃ t, (∀ i, PE (X i) e t) ∧ ∀ j, ED K (O j) t f
def T3 {ι κ : Type} (K : PySem.W.Frag) (X : ι → Cx) (O : κ → Ob) (e : Expr) (f : DT) : Prop := ∃ t, (∀ i, PT (X i) e t) ∧ ∀ j, TD K (O j) t f
def W3 {ι κ : Type} (K : PySem.W.Frag) (X : ι → Cx) (O : κ → Ob) (e : Expr) (f : DT) : Prop := ∃ t, (∀ i, PW (X i) e t) ∧ ∀ j, TD K (O j) t f
def A3 {ι κ : Type} (K : PySem.W.Frag) (X : ι → Cx) (O : κ → Ob) (es : List Expr) (f : DA) : Prop := ∃ t, (∀ i, PA (X i) es t) ∧ ∀ j, AD K (O j) t f
def I3 {ι κ : Type} (K : PySem.W.Frag) (X : ι → Cx) (O : κ → Ob) (tg e : Expr) (f : DI) : Prop := ∃ t, (∀ i, PI (X i) tg e t) ∧ ∀ j, SrcS K (O j) t f
def J3 {ι κ : Type} (K : PySem.W.Frag) (X : ι → Cx) (O : κ → Ob) (tg e : Expr) (f : DJ) : Prop := ∃ t, (∀ i, PI (X i) tg e t) ∧ ∀ j, SrcR K (O j) t f
def S3 {ι κ : Type} (K : PySem.W.Frag) (X : ι → Cx) (O : κ → Ob) (s : Stmt) (g : DS) : Prop := ∃ t, (∀ i, PS (X i) s t) ∧ ∀ j, SD K (O j) t g
def Ss3 {ι κ : Type} (K : PySem.W.Frag) (X : ι → Cx) (O : κ → Ob) (s : List Stmt) (g : DS) : Prop := ∃ t, (∀ i, PSs (X i) s t) ∧ ∀ j, SD K (O j) t g
def O3 {ι κ : Type} (K : PySem.W.Frag) (X : ι → Cx) (O : κ → Ob) (e : Option Expr) (f : DO) : Prop := ∃ t, (∀ i, PO (X i) e t) ∧ ∀ j, OD K (O j) t f
def G3 {ι : Type} (K : PySem.W.Frag) (X : ι → Cx) (h : Nat) (tg : Expr) (g : DG) : Prop := ∃ t, (∀ i, PG (X i) tg t) ∧ (∀ O : Ob, GS K O t g) ∧ (∀ O : Ob, GR K O t g) ∧ OwnG h t
section
variable {ι κ : Type} {P : Program} {w : World} {K : PySem.W.Frag} {mg : Str → Option Value} {base : Heap} {k : Nat} {X : ι → Cx} {O : κ → Ob} {a b c : Expr} {fa fb fc : DE} {pos : Pos}
theorem e_var (n : Nat) {x : Str} (hN : ∀ i, (X i).N[n]? = some x := by intro i; rfl) (hv : ∀ i, Vis (X i).env.scope x := by intro i; first | exact Or.inl rfl | exact Or.inr (Or.inl rfl) | exact Or.inr (Or.inr rfl))
   (hd : (x == ("__debug__" : Str)) = false := by decide) (hcd : (x == ("__classdict__" : Str)) = false := by decide) : E3 K X O (.Name x pos) (vD n) := ⟨_, fun i => pe_var (hN i) (hv i) hd hcd, fun j => ed_var⟩
theorem e_int {n : Int} {j : Nat} : E3 K X O (.Constant (.int n) j pos) (cD (.int n)) := ⟨_, fun i => pe_int, fun j => ed_int⟩
theorem e_str {x : Str} {j : Nat} : E3 K X O (.Constant (.str x) j pos) (cD (.str x)) := ⟨_, fun i => pe_str, fun j => ed_str⟩
theorem e_bl {x : Bool} {j : Nat} : E3 K X O (.Constant (.bool x) j pos) (cD (.bool x)) := ⟨_, fun i => pe_bl, fun j => ed_bl⟩
theorem e_non {j : Nat} : E3 K X O (.Constant .none j pos) (cD .none) := ⟨_, fun i => pe_non, fun j => ed_non⟩
theorem e_op {op : Operator} {r : R2} {F : PyData → PyData → (R → Prop) → Prop} (ho : ∀ i, OpR (X i) (binaryOp op) r) (hd : ∀ j, OpD K (O j) r F) (ha : E3 K X O a fa) (hb : E3 K X O b fb) : E3 K X O (.BinOp a op b pos) (opDE F fa fb) :=
 let ⟨_, p1, d1⟩ := ha; let ⟨_, p2, d2⟩ := hb; ⟨_, fun i => pe_op (ho i) (p1 i) (p2 i), fun j => ed_op (hd j) (d1 j) (d2 j)⟩
theorem e_add (C : Ctx3 P w K mg base k X) (ha : E3 K X O a fa) (hb : E3 K X O b fb) : E3 K X O (.BinOp a .Add b pos) (opDE (fn2 addF) fa fb) := e_op (fun i => by have h := op_addU (X := X i); rw [C.hK] at h; exact h) (fun _ => opd_add) ha hb
theorem e_sub (ha : E3 K X O a fa) (hb : E3 K X O b fb) : E3 K X O (.BinOp a .Sub b pos) (opDE (fn2 (intF fun i j => .int (i - j))) fa fb) := e_op (fun i => op_sub) (fun _ => opd_sub) ha hb
theorem e_cmp {op : CmpOp} {r : R2} {F : PyData → PyData → (R → Prop) → Prop} (ho : ∀ i, OpR (X i) (compareOp op) r) (hd : ∀ j, OpD K (O j) r F) (ha : E3 K X O a fa) (hb : E3 K X O b fb) (hm : behindInMarks op b = false) : E3 K X O (.Compare a [op] [b] pos) (opDE F fa fb) :=
 let ⟨_, p1, d1⟩ := ha; let ⟨_, p2, d2⟩ := hb; ⟨_, fun i => pe_cmpR (ho i) (p1 i) (p2 i) hm, fun j => ed_op (hd j) (d1 j) (d2 j)⟩
theorem t_cmp {op : CmpOp} {r : R2} {F : PyData → PyData → (R → Prop) → Prop} (ho : ∀ i, OpR (X i) (compareOp op) r) (hd : ∀ j, OpD K (O j) r F) (ha : E3 K X O a fa) (hb : E3 K X O b fb) (hm : behindInMarks op b = false) : T3 K X O (.Compare a [op] [b] pos) (bD (opDE F fa fb)) :=
 let ⟨_, p1, d1⟩ := ha; let ⟨_, p2, d2⟩ := hb; ⟨_, fun i => pt_cmpR (ho i) (p1 i) (p2 i) hm, fun j => td_val (ed_op (hd j) (d1 j) (d2 j))⟩
theorem oR_eq (C : Ctx3 P w K mg base k X) : ∀ i, OpR (X i) (compareOp .Eq) (rEqD K false) := fun i => by have h := op_eqD (X := X i) (C.room i).units; rw [C.hK] at h; exact h
theorem oR_ne (C : Ctx3 P w K mg base k X) : ∀ i, OpR (X i) (compareOp .NotEq) (rEqD K true) := fun i => by have h := op_neD (X := X i) (C.room i).units; rw [C.hK] at h; exact h
theorem oR_in (C : Ctx3 P w K mg base k X) : ∀ i, OpR (X i) (compareOp .In) (rInU K) := fun i => by have h := op_inU (X := X i) (C.room i).units; rw [C.hK] at h; exact h
theorem e_eq (C : Ctx3 P w K mg base k X) (ha : E3 K X O a fa) (hb : E3 K X O b fb) : E3 K X O (.Compare a [.Eq] [b] pos) (opDE (fn2 (eqF false)) fa fb) := e_cmp (oR_eq C) (fun _ => opd_eq false) ha hb (nomark b)
theorem e_ne (C : Ctx3 P w K mg base k X) (ha : E3 K X O a fa) (hb : E3 K X O b fb) : E3 K X O (.Compare a [.NotEq] [b] pos) (opDE (fn2 (eqF true)) fa fb) := e_cmp (oR_ne C) (fun _ => opd_eq true) ha hb (nomark b)
theorem t_eq (C : Ctx3 P w K mg base k X) (ha : E3 K X O a fa) (hb : E3 K X O b fb) : T3 K X O (.Compare a [.Eq] [b] pos) (bD (opDE (fn2 (eqF false)) fa fb)) := t_cmp (oR_eq C) (fun _ => opd_eq false) ha hb (nomark b)
theorem t_ne (C : Ctx3 P w K mg base k X) (ha : E3 K X O a fa) (hb : E3 K X O b fb) : T3 K X O (.Compare a [.NotEq] [b] pos) (bD (opDE (fn2 (eqF true)) fa fb)) := t_cmp (oR_ne C) (fun _ => opd_eq true) ha hb (nomark b)
theorem t_lt (ha : E3 K X O a fa) (hb : E3 K X O b fb) : T3 K X O (.Compare a [.Lt] [b] pos) (bD (opDE (fn2 (intF fun i j => .bool (decide (i < j)))) fa fb)) := t_cmp (fun i => op_lt) (fun _ => opd_lt) ha hb (nomark b)
theorem t_le (ha : E3 K X O a fa) (hb : E3 K X O b fb) : T3 K X O (.Compare a [.LtE] [b] pos) (bD (opDE (fn2 (intF fun i j => .bool (decide (i ≤ j)))) fa fb)) := t_cmp (fun i => op_le) (fun _ => opd_le) ha hb (nomark b)
theorem t_in (C : Ctx3 P w K mg base k X) (ha : E3 K X O a fa) (hb : E3 K X O b fb) (hm : behindInMarks .In b = false := by rfl) : T3 K X O (.Compare a [.In] [b] pos) (bD (opDE (fn2 (inF false)) fa fb)) := t_cmp (oR_in C) (fun _ => opd_in) ha hb hm
theorem t_is (ha : E3 K X O a fa) (hb : E3 K X O b fb) : T3 K X O (.Compare a [.Is] [b] pos) (bD (opDE (isNF false) fa fb)) := t_cmp (fun i => op_isN) (fun _ => opd_isN) ha hb (nomark b)
variable {ft fu : DT} {rest : List Expr}
theorem t_val (ha : E3 K X O a fa) (he : ∀ i whole, isTrue a (X i).env whole = (do let v ← whole; standAt a.pos; holding [v] (truthy v)) := by intro _ _; rfl) : T3 K X O a (bD fa) := let ⟨_, p, d⟩ := ha; ⟨_, fun i => pt_val (p i) (he i), fun j => td_valB (d j)⟩
theorem w_and1 (h : T3 K X O a ft) : W3 K X O (.BoolOp .And [a] pos) ft := let ⟨_, p, d⟩ := h; ⟨_, fun i => pw_and1 (p i), d⟩
theorem w_or1 (h : T3 K X O a ft) : W3 K X O (.BoolOp .Or [a] pos) ft := let ⟨_, p, d⟩ := h; ⟨_, fun i => pw_or1 (p i), d⟩
theorem w_and (h : T3 K X O a ft) (h' : W3 K X O (.BoolOp .And (b :: rest) pos) fu) : W3 K X O (.BoolOp .And (a :: b :: rest) pos) (andT ft fu) := let ⟨_, p, d⟩ := h; let ⟨_, p2, d2⟩ := h'; ⟨_, fun i => pw_and (p i) (p2 i), fun j => td_and (d j) (d2 j)⟩
theorem w_or (h : T3 K X O a ft) (h' : W3 K X O (.BoolOp .Or (b :: rest) pos) fu) : W3 K X O (.BoolOp .Or (a :: b :: rest) pos) (orT ft fu) := let ⟨_, p, d⟩ := h; let ⟨_, p2, d2⟩ := h'; ⟨_, fun i => pw_or (p i) (p2 i), fun j => td_or (d j) (d2 j)⟩
theorem t_w (h : W3 K X O a ft) : T3 K X O a ft := let ⟨_, p, d⟩ := h; ⟨_, fun i => (p i).pt, d⟩
theorem e_if (hc : T3 K X O c ft) (ha : E3 K X O a fa) (hb : E3 K X O b fb) : E3 K X O (.IfExp c a b pos) (ifD ft fa fb) := let ⟨_, p, d⟩ := hc; let ⟨_, p1, d1⟩ := ha; let ⟨_, p2, d2⟩ := hb; ⟨_, fun i => pe_ifExp (p i) (p1 i) (p2 i), fun j => ed_if (d j) (d1 j) (d2 j)⟩
variable {es : List Expr} {ga : DA}
theorem a_nil : A3 K X O [] aNil := ⟨_, fun i => pa_nil, fun j => ad_nil⟩
theorem a_cons (ha : E3 K X O a fa) (hr : A3 K X O es ga) (hs : ∀ i, starEach (a :: es) (X i).env = (false, eval a (X i).env) :: starEach es (X i).env := by intro i; rfl) : A3 K X O (a :: es) (aCons fa ga) := let ⟨_, p, d⟩ := ha; let ⟨_, p2, d2⟩ := hr; ⟨_, fun i => pa_cons (p i) (p2 i) (hs i), fun j => ad_cons (d j) (d2 j)⟩
theorem e_tup {n : Nat} (h : A3 K X O es ga) : E3 K X O (.Tuple es n pos) (tupD ga) := let ⟨_, p, d⟩ := h; ⟨_, fun i => pe_tup (p i), fun j => ed_tup (d j)⟩
theorem e_lst (h : A3 K X O es ga) : E3 K X O (.List es pos) (lstD ga) := let ⟨_, p, d⟩ := h; ⟨_, fun i => pe_lst (p i), fun j => ed_lst (d j)⟩
theorem e_idx (C : Ctx3 P w K mg base k X) (ha : E3 K X O a fa) (hb : E3 K X O b fb) (hs : PlainIx b := by intro _ _; rfl) : E3 K X O (.Subscript a b pos) (opDE (fn2 idxF) fa fb) :=
 let ⟨_, p1, d1⟩ := ha; let ⟨_, p2, d2⟩ := hb; ⟨tOp (rIx K) _ _, fun i => by have h := pe_ix (pos := pos) (ix_seq (X := X i)) (p1 i) (p2 i) hs; rw [C.hK] at h; exact h, fun j => ed_op opd_idx (d1 j) (d2 j)⟩
theorem o_none : O3 K X O none noO := ⟨_, fun i => po_none, fun j => od_none⟩
theorem o_some (ha : E3 K X O a fa) : O3 K X O (some a) (someO fa) := let ⟨_, p, d⟩ := ha; ⟨_, fun i => po_some (p i), fun j => od_some (d j)⟩
theorem e_slice (C : Ctx3 P w K mg base k X) {lo hi : Option Expr} {fl fh : DO} {p2 : Pos} (ha : E3 K X O a fa) (hl : O3 K X O lo fl) (hh : O3 K X O hi fh) : E3 K X O (.Subscript a (.Slice lo hi none p2) pos) (slD fa fl fh) :=
 let ⟨_, p1, d1⟩ := ha; let ⟨_, q2, d2⟩ := hl; let ⟨_, q3, d3⟩ := hh; ⟨tSl (rSl K) _ _ _, fun i => by have h := pe_slice (pos := pos) (p2 := p2) (sl_any (X := X i)) (p1 i) (q2 i) (q3 i); rw [C.hK] at h; exact h, fun j => ed_slice (d1 j) (d2 j) (d3 j)⟩
theorem e_blt {x : Str} {id : String} {r : List V → Hp → VK → Prop} {F : List PyData → (R → Prop) → Prop} {p : Pos} (C : Ctx3 P w K mg base k X) (hc : ∀ i, CallR (X i) (.builtin id) r) (hd : ∀ j, CallD K (O j) r F) (hv : bootBuiltins x = some (.builtin id)) (hm : mg x = none) (ha : A3 K X O (a :: es) ga)
   (hg : ∀ i, Gl (X i) x := by intro i; rfl) (hn : x ≠ "__name__" := by decide) (hdb : (x == ("__debug__" : Str)) = false := by decide) (he : ∀ i, starEach (a :: es) (X i).env = (false, eval a (X i).env) :: starEach es (X i).env := by intro i; rfl) (hpl : ∀ i, (backTo pos (starEach es (X i).env)).any (·.1) = false := by intro i; rfl) :
   E3 K X O (.Call (.Name x p) (a :: es) [] pos) (callDE F ga) := let ⟨_, q, d⟩ := ha; ⟨_, fun i => pe_callB (hc i) (hg i) (by rw [C.hmg]; exact hm) hv (q i) hn hdb (he i) (hpl i), fun j => ed_callB (hd j) (d j)⟩
theorem e_bty {x : Str} {T : String} {r : List V → Hp → VK → Prop} {F : List PyData → (R → Prop) → Prop} {p : Pos} (C : Ctx3 P w K mg base k X) (hc : ∀ i, CallR (X i) (.type T) r) (hd : ∀ j, CallD K (O j) r F) (hv : bootBuiltins x = some (.type T)) (hm : mg x = none) (ha : A3 K X O (a :: es) ga)
   (hg : ∀ i, Gl (X i) x := by intro i; rfl) (hn : x ≠ "__name__" := by decide) (hdb : (x == ("__debug__" : Str)) = false := by decide) (he : ∀ i, starEach (a :: es) (X i).env = (false, eval a (X i).env) :: starEach es (X i).env := by intro i; rfl) (hpl : ∀ i, (backTo pos (starEach es (X i).env)).any (·.1) = false := by intro i; rfl) :
   E3 K X O (.Call (.Name x p) (a :: es) [] pos) (callDE F ga) := let ⟨_, q, d⟩ := ha; ⟨_, fun i => pe_callTy (hc i) (hg i) (by rw [C.hmg]; exact hm) hv (q i) hn hdb (he i) (hpl i), fun j => ed_callB (hd j) (d j)⟩
end
end L3
namespace L3
open PySem PySem.Spec
open PyProof.Rows hiding St
open L2
theorem bt_len : bootBuiltins "len" = some (.builtin "len") := by decide +kernel
theorem bt_all : bootBuiltins "all" = some (.builtin "all") := by decide +kernel
theorem bt_sorted : bootBuiltins "sorted" = some (.builtin "sorted") := by decide +kernel
theorem bt_repr : bootBuiltins "repr" = some (.builtin "repr") := by decide +kernel
theorem bt_int : bootBuiltins "int" = some (.type "int") := by decide +kernel
theorem bt_list : bootBuiltins "list" = some (.type "list") := by decide +kernel
theorem bt_tuple : bootBuiltins "tuple" = some (.type "tuple") := by decide +kernel
structure Blt (mg : Str → Option Value) : Prop where
 len : mg "len" = none
 all : mg "all" = none
 any : mg "any" = none
 sorted : mg "sorted" = none
 min : mg "min" = none
 max : mg "max" = none
 repr : mg "repr" = none
 int : mg "int" = none
 list : mg "list" = none
 tuple : mg "tuple" = none
 range : mg "range" = none
 set : mg "set" = none
 isinstance : mg "isinstance" = none
 enumerate : mg "enumerate" = none
 zip : mg "zip" = none
 reversed : mg "reversed" = none
 str : mg "str" = none
 sum : mg "sum" = none
 dict : mg "dict" = none
 bool : mg "bool" = none
structure Def3 (P : Program) (w : World) (K : PySem.W.Frag) (mg : Str → Option Value) (base : Heap) (k : Nat) (x : Str) (ps : List Str) (sp : Sp) : Prop where
 ex : ∃ f fd, FnOk P w K mg base CX0 k f fd ps sp ∧ mg x = some (.ref f) ∧ PySem.W.keepIn K (.ref f) = true ∧ Binds K fd ps []
structure Top3 (K : PySem.W.Frag) (mg : Str → Option Value) (x : Str) (st : Stmt) : Prop where
 ex : ∃ f fd, Fun K x x st f fd ∧ mg x = some (.ref f)
structure CIx where
 C : Addr
 s : Shared
 H : Hp
 ex : List Addr
def compX {ι : Type} (X : ι → Cx) (scope : Scope) (N' : List Str) : ι × CIx → Cx := fun p => compCx (X p.1) scope N' p.2.C p.2.s p.2.H p.2.ex
def compO {κ : Type} (O : κ → Ob) : { p : κ × (Addr × List V) // ¬ (O p.1).M p.2.1 } → Ob := fun p => (O p.1.1).plus p.1.2.1 (.lst p.1.2.2)
def F3 {ι κ : Type} (K : PySem.W.Frag) (X : ι → Cx) (O : κ → Ob) (ifs : List Expr) (f : DT) : Prop := ∃ t, (∀ i, PF (X i) ifs t) ∧ ∀ j, TD K (O j) t f
def yesD : DT := fun _ Q => Q true
section
variable {ι κ : Type} {P : Program} {w : World} {K : PySem.W.Frag} {mg : Str → Option Value} {base : Heap} {k : Nat} {X : ι → Cx} {O : κ → Ob} {a b c tg : Expr} {fa fb fc : DE} {pos p : Pos} {es : List Expr} {ga : DA}
theorem Ctx3.comp (C : Ctx3 P w K mg base k X) (scope : Scope) (N' : List Str) : Ctx3 P w K mg base k (compX X scope N') := ⟨fun i => C.hP i.1, fun i => C.hw i.1, fun i => C.hK i.1, fun i => C.hmg i.1, fun i => C.hb i.1, fun i => C.calm i.1, fun i => C.room i.1, fun _ => rfl⟩
theorem e_len (C : Ctx3 P w K mg base k X) (B : Blt mg) (ha : A3 K X O [a] ga) (hg : ∀ i, Gl (X i) "len" := by intro i; rfl) (he : ∀ i, starEach [a] (X i).env = (false, eval a (X i).env) :: starEach [] (X i).env := by intro i; rfl) : E3 K X O (.Call (.Name "len" p) [a] [] pos) (callDE (fn1 lenF) ga) :=
 e_blt C (fun i => by have h := call_len (X := X i); rw [C.hK] at h; exact h) (fun _ => cd_len) bt_len B.len ha hg (by decide) (by decide) he
theorem e_all (C : Ctx3 P w K mg base k X) (B : Blt mg) (ha : A3 K X O [a] ga) (hg : ∀ i, Gl (X i) "all" := by intro i; rfl) (he : ∀ i, starEach [a] (X i).env = (false, eval a (X i).env) :: starEach [] (X i).env := by intro i; rfl) : E3 K X O (.Call (.Name "all" p) [a] [] pos) (callDE (allD false) ga) :=
 e_blt C (fun i => call_allL (C.calm i)) (fun _ => cd_all false) bt_all B.all ha hg (by decide) (by decide) he
theorem e_repr (C : Ctx3 P w K mg base k X) (B : Blt mg) (ha : A3 K X O [a] ga) (hg : ∀ i, Gl (X i) "repr" := by intro i; rfl) (he : ∀ i, starEach [a] (X i).env = (false, eval a (X i).env) :: starEach [] (X i).env := by intro i; rfl) : E3 K X O (.Call (.Name "repr" p) [a] [] pos) (callDE (fn1 reprF) ga) :=
 e_blt C (fun i => by have h := call_reprD (X := X i) (C.room i).gd (C.room i).units; rw [C.hK] at h; exact h) (fun _ => cd_repr) bt_repr B.repr ha hg (by decide) (by decide) he
theorem e_intc (C : Ctx3 P w K mg base k X) (B : Blt mg) (ha : A3 K X O [a] ga) (hg : ∀ i, Gl (X i) "int" := by intro i; rfl) (he : ∀ i, starEach [a] (X i).env = (false, eval a (X i).env) :: starEach [] (X i).env := by intro i; rfl) : E3 K X O (.Call (.Name "int" p) [a] [] pos) (callDE (fn1 int1F) ga) :=
 e_bty C (fun i => call_int1) (fun _ => cd_int) bt_int B.int ha hg (by decide) (by decide) he
theorem mtr_join {X : Cx} : MtR X "str.join" rJoin := fun pins s σ H x xs v us Q I rx rv h => mt_join pins s σ H x xs v us Q I rx rv h
theorem e_join {apos : Pos} (C : Ctx3 P w K mg base k X) (ho : E3 K X O a fa) (hb : E3 K X O b fb) (hbase : ∀ i, attributeBase a "join" (X i).env (eval a (X i).env) = eval a (X i).env := by intro i; rfl)
   (hfew : ∀ i, ((backTo pos (starEach [b] (X i).env)).all (fun x => !x.1) && (backToKw pos (keywordEach [] (X i).env)).all (fun x => x.1.isSome) && decide (([b] : List Expr).length + ([] : List Keyword).length + (if ([] : List Keyword).isEmpty then 0 else 1) < 30)) = true := by intro i; rfl)
   (hline : (apos.endLine == pos.line) = true := by rfl) (hs : ∀ i, starEach [b] (X i).env = [(false, eval b (X i).env)] := by intro i; rfl) : E3 K X O (.Call (.Attribute a "join" apos) [b] [] pos) (joinD fa fb) :=
 let ⟨_, p1, d1⟩ := ho; let ⟨_, p2, d2⟩ := hb; ⟨tBM K "str" rJoin _ (tCons _ tNil), fun i => by
   have h := pe_bm (apos := apos) (cpos := pos) PySem.F.plainAttrs_str PySem.F.slot_str_join PySem.F.type_str_join (mtr_join (X := X i)) (p1 i) (pa_cons (p2 i) pa_nil (hs i)) (hbase i) (hfew i) hline (hs i)
   rw [C.hK] at h
   exact h, fun j => ed_join (d1 j) (d2 j)⟩
theorem e_call {k' n : Nat} {x : Str} {ps : List Str} {φ : Ob → Prop} {F : List PyData → (R → Prop) → Prop} (C : Ctx3 P w K mg base k X) (D : Def3 P w K mg base k' x ps (spO K φ n F)) (hφ : ∀ j, φ (O j)) (ha : A3 K X O (a :: es) ga) (hk : k' ≤ k := by decide) (hg : ∀ i, Gl (X i) x := by intro i; rfl)
   (hdb : (x == ("__debug__" : Str)) = false := by decide) (he : ∀ i, starEach (a :: es) (X i).env = (false, eval a (X i).env) :: starEach es (X i).env := by intro i; rfl) (hpl : ∀ i, (backTo pos (starEach es (X i).env)).any (·.1) = false := by intro i; rfl) : E3 K X O (.Call (.Name x p) (a :: es) [] pos) (calD n F ga) := by
 obtain ⟨f, fd, G, m, kp, bn⟩ := D.ex
 obtain ⟨t, q, d⟩ := ha
 refine ⟨tCall (spO K φ n F) [] E0 t, fun i => ?_, fun j => ed_call (hφ j) (d j)⟩
 have G' : FnOk (X i).prog (X i).w (X i).K (X i).mg (X i).base CX0 k f fd ps (spO K φ n F) := by rw [C.hP, C.hw, C.hK, C.hmg, C.hb]; exact G.mono hk
 exact pe_call G' (C.room i) (hg i) (by rw [C.hmg]; exact m) (by rw [C.hK]; exact kp) (by rw [C.hK]; exact bn) .nil pass0 (q i) hdb (he i) (hpl i)
theorem e_callO {k' n : Nat} (v : Nat) {x y : Str} {py : Pos} {ps : List Str} {φ : Ob → Prop} {F : List PyData → (R → Prop) → Prop} (C : Ctx3 P w K mg base k X) (D : Def3 P w K mg base k' x ps (spD K φ n F)) (hφ : ∀ j, φ (O j)) (ha : A3 K X O es ga) (hk : k' ≤ k := by decide) (hg : ∀ i, Gl (X i) x := by intro i; rfl)
   (hN : ∀ i, (X i).N[v]? = some y := by intro i; rfl) (hv : ∀ i, Vis (X i).env.scope y := by intro i; first | exact Or.inl rfl | exact Or.inr (Or.inl rfl) | exact Or.inr (Or.inr rfl)) (hd : (y == ("__debug__" : Str)) = false := by decide) (hcd : (y == ("__classdict__" : Str)) = false := by decide)
   (hdb : (x == ("__debug__" : Str)) = false := by decide) (he : ∀ i, starEach (.Name y py :: es) (X i).env = (false, eval (.Name y py) (X i).env) :: starEach es (X i).env := by intro i; rfl) (hpl : ∀ i, (backTo pos (starEach es (X i).env)).any (·.1) = false := by intro i; rfl) :
   E3 K X O (.Call (.Name x p) (.Name y py :: es) [] pos) (calO v n F ga) := by
 obtain ⟨f, fd, G, m, kp, bn⟩ := D.ex
 obtain ⟨t, q, d⟩ := ha
 refine ⟨tCall (spD K φ n F) [] E0 (tCons (tVar v) t), fun i => ?_, fun j => ed_callO (hφ j) (d j)⟩
 have G' : FnOk (X i).prog (X i).w (X i).K (X i).mg (X i).base CX0 k f fd ps (spD K φ n F) := by rw [C.hP, C.hw, C.hK, C.hmg, C.hb]; exact G.mono hk
 exact pe_call G' (C.room i) (hg i) (by rw [C.hmg]; exact m) (by rw [C.hK]; exact kp) (by rw [C.hK]; exact bn) .nil pass0 (pa_cons (pe_var (hN i) (hv i) hd hcd) (q i) (he i)) hdb (he i) (hpl i)
theorem i_list (C : Ctx3 P w K mg base k X) (ha : E3 K X O a fa) : I3 K X O tg a (srcL fa) := let ⟨_, p, d⟩ := ha; ⟨iList K _, fun i => by have h := pi_list (tg := tg) (p i); rw [C.hK] at h; exact h, fun j => src_list (d j)⟩
theorem i_tup (C : Ctx3 P w K mg base k X) (ha : E3 K X O a fa) : I3 K X O tg a (srcT fa) := let ⟨_, p, d⟩ := ha; ⟨iTup K _, fun i => by have h := pi_tup (tg := tg) (p i); rw [C.hK] at h; exact h, fun j => src_tup (d j)⟩
theorem i_str (ha : E3 K X O a fa) : I3 K X O tg a (srcS fa) := let ⟨_, p, d⟩ := ha; ⟨_, fun i => pi_str (p i), fun j => src_str (d j)⟩
theorem i_r1 (C : Ctx3 P w K mg base k X) (B : Blt mg) (ha : A3 K X O [a] ga) (hg : ∀ i, Gl (X i) "range" := by intro i; rfl) (hs : ∀ i, starEach [a] (X i).env = [(false, eval a (X i).env)] := by intro i; rfl) : I3 K X O tg (.Call (.Name "range" p) [a] [] pos) (srcR1 ga) :=
 let ⟨_, q, d⟩ := ha; ⟨_, fun i => pi_range1 (hg i) (by rw [C.hmg]; exact B.range) (q i) (hs i), fun j => src_rng1 (d j)⟩
theorem j_new {fi : DI} (h : I3 K X O tg a fi) : J3 K X O tg a (newJ fi) := let ⟨_, p, d⟩ := h; ⟨_, p, fun j => srcR_of (d j)⟩
theorem g_name {h : Nat} (n : Nat) {x : Str} (hlt : n < h := by decide) (hN : ∀ i, (X i).N.Nodup := by intro i; exact of_decide_eq_true (by kernel_rfl)) (hi : ∀ i, (X i).N[n]? = some x := by intro i; rfl) (hx : ∀ i, Loc (X i).env.scope x := by intro i; first | exact Or.inl rfl | exact Or.inr rfl)
   (hf : ∀ i, (X i).fn x = true ∨ (X i).env.scope.names.lookup x = some .local := by intro i; first | exact .inl rfl | exact .inr rfl) : G3 K X h (.Name x pos) (gN n) := ⟨_, fun i => pg_name (hN i) (hi i) (hx i) (hf i), fun _ => gs_name, fun _ => gr_name, own_name hlt⟩
theorem e_neg {n : Int} {j : Nat} {p2 : Pos} : E3 K X O (.UnaryOp .USub (.Constant (.int n) j p2) pos) (cD (.int (-n))) := ⟨tUn (rU fun i => .int (-i)) (tC (.int n)), fun i => pe_un un_neg pe_int, fun _ σ H ρ Q Qd S h kk => ⟨n, rfl, kk _ H (.o _) (.refl _ _) (Is.int _) h⟩⟩
theorem f_nil {O' : κ → Ob} : F3 K X O' [] yesD := ⟨_, fun i => pf_nil, fun j σ H ρ Q Qd S h k => k true H (.refl _ _) h⟩
theorem e_comp {elt iter : Expr} {ifs : List Expr} {scope : Scope} {fi : DI} {g : DG} {ft : DT} {fe : DE} (h : Nat) (N' : List Str) (C : Ctx3 P w K mg base k X) (S : ∀ i, ScopeOk h N' (X i).N scope (X i).env.scope) (hs : I3 K X O tg iter fi)
   (hg : G3 K (compX X scope N') h tg g) (hf : F3 K (compX X scope N') (compO O) ifs ft) (he : E3 K (compX X scope N') (compO O) elt fe) (hset : ∀ i x, foldedSetIterable iter (X i).env x = pure x := by intro _ _; rfl) :
   E3 K X O (.ListComp elt [⟨tg, iter, ifs, 0⟩] scope pos) (compD h fi g ft fe) := by
 obtain ⟨ti, p1, d1⟩ := hs
 obtain ⟨tg', p2, d2, _, ow⟩ := hg
 obtain ⟨tf, p3, d3⟩ := hf
 obtain ⟨te, p4, d4⟩ := he
 exact ⟨_, fun i => pe_comp h (S i) (C.calm i) (p1 i) (fun c s H ex => p2 (i, ⟨c, s, H, ex⟩)) ow (fun c s H ex => p3 (i, ⟨c, s, H, ex⟩)) (fun c s H ex => p4 (i, ⟨c, s, H, ex⟩)) (hset i), fun j => ed_comp (d1 j) d2 (fun D xs nm => d3 ⟨(j, (D, xs)), nm⟩) fun D xs nm => d4 ⟨(j, (D, xs)), nm⟩⟩
variable {st : Stmt} {sts : List Stmt} {g1 g2 : DS} {ft : DT}
theorem ss_nil : Ss3 K X O [] (fun Dd ρ => Dd.nx ρ) := ⟨_, fun i => pss_nil, fun j => sd_next⟩
theorem ss_one (h : S3 K X O st g1) : Ss3 K X O [st] g1 := let ⟨_, p, d⟩ := h; ⟨_, fun i => pss_one (p i), d⟩
theorem ss_cons (h : S3 K X O st g1) (h' : Ss3 K X O sts g2) : Ss3 K X O (st :: sts) (seqD g1 g2) := let ⟨_, p, d⟩ := h; let ⟨_, p2, d2⟩ := h'; ⟨_, fun i => pss_cons (p i) (p2 i), fun j => sd_seq (d j) (d2 j)⟩
theorem s_ret (ha : E3 K X O a fa) : S3 K X O (.Return (some a) pos) (retS fa) := let ⟨_, p, d⟩ := ha; ⟨_, fun i => ps_ret (p i), fun j => sd_ret (d j)⟩
theorem s_if {sa sb : List Stmt} (hc : T3 K X O c ft) (h : Ss3 K X O sa g1) (h' : Ss3 K X O sb g2) : S3 K X O (.If c sa sb pos) (ifS ft g1 g2) := let ⟨_, p, d⟩ := hc; let ⟨_, p1, d1⟩ := h; let ⟨_, p2, d2⟩ := h'; ⟨_, fun i => ps_if (p i) (p1 i) (p2 i), fun j => sd_if (d j) (d1 j) (d2 j)⟩
theorem s_set (n : Nat) {x : Str} {px : Pos} (ha : E3 K X O a fa) (hN : ∀ i, (X i).N.Nodup := by intro i; exact of_decide_eq_true (by kernel_rfl)) (hi : ∀ i, (X i).N[n]? = some x := by intro i; rfl) (hx : ∀ i, Loc (X i).env.scope x := by intro i; first | exact Or.inl rfl | exact Or.inr rfl)
   (hs : ∀ i, swapsWith a (some (.Name x px)) pos.line (X i).env = pure false := by intro i; rfl) (hf : ∀ i, (X i).fn x = true ∨ (X i).env.scope.names.lookup x = some .local := by intro i; first | exact .inl rfl | exact .inr rfl) : S3 K X O (.Assign [.Name x px] a pos) (asgS n fa) :=
 let ⟨_, p, d⟩ := ha; ⟨_, fun i => ps_set (hN i) (hi i) (hx i) (p i) (hs i) (hf i), fun j => sd_asg (d j)⟩
theorem mtr_append {X : Cx} : MtR X "list.append" rAppend := fun pins s σ H x xs v us Q I rx rv h => mt_append pins s σ H x xs v us Q I rx rv h
theorem s_app (n : Nat) {x : Str} {px apos cpos : Pos} (C : Ctx3 P w K mg base k X) (hb : E3 K X O b fb) (hN : ∀ i, (X i).N[n]? = some x := by intro i; rfl) (hv : ∀ i, Vis (X i).env.scope x := by intro i; first | exact Or.inl rfl | exact Or.inr (Or.inl rfl) | exact Or.inr (Or.inr rfl)) (hd : (x == ("__debug__" : Str)) = false := by decide) (hcd : (x == ("__classdict__" : Str)) = false := by decide)
   (hbase : ∀ i, attributeBase (.Name x px) "append" (X i).env (eval (.Name x px) (X i).env) = eval (.Name x px) (X i).env := by intro i; rfl)
   (hfew : ∀ i, ((backTo cpos (starEach [b] (X i).env)).all (fun x => !x.1) && (backToKw cpos (keywordEach [] (X i).env)).all (fun x => x.1.isSome) && decide (([b] : List Expr).length + ([] : List Keyword).length + (if ([] : List Keyword).isEmpty then 0 else 1) < 30)) = true := by intro i; rfl)
   (hline : (apos.endLine == cpos.line) = true := by rfl) (hs : ∀ i, starEach [b] (X i).env = [(false, eval b (X i).env)] := by intro i; rfl) (hsw : ∀ i, swapsWith (.Call (.Attribute (.Name x px) "append" apos) [b] [] cpos) none pos.line (X i).env = pure false := by intro i; rfl) :
   S3 K X O (.Expr (.Call (.Attribute (.Name x px) "append" apos) [b] [] cpos) pos) (appS n fb) := let ⟨_, p2, d2⟩ := hb;
 ⟨tDrop (tBM K "list" rAppend (tVar n) (tCons _ tNil)), fun i => by
   have h := pe_bm (apos := apos) (cpos := cpos) PySem.F.plainAttrs_list PySem.F.slot_list_append PySem.F.type_list_append (mtr_append (X := X i)) (pe_var (pos := px) (hN i) (hv i) hd hcd) (pa_cons (p2 i) pa_nil (hs i)) (hbase i) (hfew i) hline (hs i)
   rw [C.hK] at h
   exact ps_expr h (hsw i), fun j => sd_append (d2 j)⟩
theorem passes_never {X : Cx} (h : X.xe = fun _ _ => False) : PassesOwn (model X.prog X.w) X.A X.env X.xe := by rw [h]; exact PassesOwn.never
theorem s_for {iter : Expr} {body : List Stmt} {fj : DJ} {g : DG} {hh : Nat} (C : Ctx3 P w K mg base k X) (hi : J3 K X O tg iter fj) (hg : G3 K X hh tg g) (hb : Ss3 K X O body g1) (hs : ∀ i x, foldedSetIterable iter (X i).env x = pure x := by intro _ _; rfl) : S3 K X O (.For tg iter body [] pos) (forS fj g g1) := by
 obtain ⟨ti, p1, d1⟩ := hi
 obtain ⟨tg', p2, _, d2, _⟩ := hg
 obtain ⟨tb, p3, d3⟩ := hb
 exact ⟨_, fun i => ps_for (passes_never (C.xe i)) (C.calm i) (p1 i) (p2 i) (p3 i) (hs i), fun j => sd_for (d1 j) (d2 (O j)) (d3 j)⟩
theorem s_while {body : List Stmt} (C : Ctx3 P w K mg base k X) (hc : T3 K X O c ft) (hb : Ss3 K X O body g1) : S3 K X O (.While c body [] pos) (whileS ft g1) := let ⟨_, p, d⟩ := hc; let ⟨_, p2, d2⟩ := hb; ⟨_, fun i => ps_while (passes_never (C.xe i)) (p i) (p2 i), fun j => sd_while (d j) (d2 j)⟩
end
theorem len1 {fd : FuncData} {p0 : Str} {us : List Value} (hl : us.length = 1) (h : ∀ u0, bindArgs fd ⟨[u0], []⟩ = pure ([p0].zip [u0])) : bindArgs fd ⟨us, []⟩ = pure ([p0].zip us) := by
 match us, hl with
 | [u0], _ => exact h u0
theorem len2 {fd : FuncData} {p0 p1 : Str} {us : List Value} (hl : us.length = 2) (h : ∀ u0 u1, bindArgs fd ⟨[u0, u1], []⟩ = pure ([p0, p1].zip [u0, u1])) : bindArgs fd ⟨us, []⟩ = pure ([p0, p1].zip us) := by
 match us, hl with
 | [u0, u1], _ => exact h u0 u1
theorem len3 {fd : FuncData} {p0 p1 p2 : Str} {us : List Value} (hl : us.length = 3) (h : ∀ u0 u1 u2, bindArgs fd ⟨[u0, u1, u2], []⟩ = pure ([p0, p1, p2].zip [u0, u1, u2])) : bindArgs fd ⟨us, []⟩ = pure ([p0, p1, p2].zip us) := by
 match us, hl with
 | [u0, u1, u2], _ => exact h u0 u1 u2
theorem len4 {fd : FuncData} {p0 p1 p2 p3 : Str} {us : List Value} (hl : us.length = 4) (h : ∀ u0 u1 u2 u3, bindArgs fd ⟨[u0, u1, u2, u3], []⟩ = pure ([p0, p1, p2, p3].zip [u0, u1, u2, u3])) : bindArgs fd ⟨us, []⟩ = pure ([p0, p1, p2, p3].zip us) := by
 match us, hl with
 | [u0, u1, u2, u3], _ => exact h u0 u1 u2 u3
theorem len5 {fd : FuncData} {p0 p1 p2 p3 p4 : Str} {us : List Value} (hl : us.length = 5) (h : ∀ u0 u1 u2 u3 u4, bindArgs fd ⟨[u0, u1, u2, u3, u4], []⟩ = pure ([p0, p1, p2, p3, p4].zip [u0, u1, u2, u3, u4])) : bindArgs fd ⟨us, []⟩ = pure ([p0, p1, p2, p3, p4].zip us) := by
 match us, hl with
 | [u0, u1, u2, u3, u4], _ => exact h u0 u1 u2 u3 u4
section
variable {P : Program} {w : World} {K : PySem.W.Frag} {mg : Str → Option Value} {base : Heap} {k n : Nat} {x : Str} {st : Stmt} {N ps : List Str} {φ : Ob → Prop} {F : List PyData → (R → Prop) → Prop}
abbrev bodyX (P : Program) (w : World) (K : PySem.W.Frag) (mg : Str → Option Value) (base : Heap) (N : List Str) (x : Str) (sc : Scope) (f : Addr) (cdv : Value) (A : Around) (outer : List Env) (s : Shared) (H : Hp) (E : XK) : Unit → Cx := fun _ => (cxOf CX0 P w K mg base N x sc f cdv A outer s H E).nox
theorem ctx_body {f : Addr} {cdv : Value} {A : Around} {outer : List Env} {s : Shared} {H : Hp} {E : XK} {sc : Scope} (hr : Room k (A.deeper (envOfC x sc s.heap.objs.size f cdv))) : Ctx3 P w K mg base k (bodyX P w K mg base N x sc f cdv A outer s H E) :=
 ⟨fun _ => rfl, fun _ => rfl, fun _ => rfl, fun _ => rfl, fun _ => rfl, fun _ => rfl, fun _ => hr, fun _ => rfl⟩
theorem mk_O (T : Top3 K mg x st) (S : FnScope N ps (defScope st)) (hb : ∀ (kV doc pm : Value) (an : Option Addr) (cdv ct : Value) (us : List Value), us.length = ps.length → bindArgs (PySem.W.fnOf x x (defArgs st) (defBody st) (defScope st) .none kV doc pm an cdv ct) ⟨us, []⟩ = pure (ps.zip us)) (hn : ps.length = n)
   (body : ∀ (f : Addr) (cdv : Value) (A : Around) (outer : List Env) (s : Shared) (H : Hp) (E : XK) (O : Ob), φ O → Ctx3 P w K mg base k (bodyX P w K mg base N x (defScope st) f cdv A outer s H E) →
     ∃ g, Ss3 K (bodyX P w K mg base N x (defScope st) f cdv A outer s H E) (fun _ : Unit => O) (defBody st) g ∧ ∀ ds Qr, ds.length = n → F ds Qr → g { nx := fun _ => Qr (.o .none), rt := Qr } (dstart N (ds.map .im))) : Def3 P w K mg base (k + 1) x ps (spO K φ n F) := by
 obtain ⟨f, fd, Fu, m⟩ := T.ex
 refine ⟨f, fd, Fu.ok S (spO_len hn) (fun cdv A outer s H vs Q E hr h => ?_), m, Fu.kp, Fu.binds hb⟩
 obtain ⟨O, ds, Qr, ok, hφ, p, hl, is, q, kk⟩ := h
 obtain ⟨g, ⟨t, h1, h2⟩, h3⟩ := body f cdv A outer s H E O hφ (ctx_body hr)
 exact ⟨t, h1 (), run_O (h2 ()) ok p is (h3 ds Qr hl q) kk⟩
theorem mk_D (T : Top3 K mg x st) (S : FnScope N ps (defScope st)) (hb : ∀ (kV doc pm : Value) (an : Option Addr) (cdv ct : Value) (us : List Value), us.length = ps.length → bindArgs (PySem.W.fnOf x x (defArgs st) (defBody st) (defScope st) .none kV doc pm an cdv ct) ⟨us, []⟩ = pure (ps.zip us)) (hn : ps.length = n + 1)
   (body : ∀ (f : Addr) (cdv : Value) (A : Around) (outer : List Env) (s : Shared) (H : Hp) (E : XK) (O : Ob), φ O → Ctx3 P w K mg base k (bodyX P w K mg base N x (defScope st) f cdv A outer s H E) →
     ∃ g, Ss3 K (bodyX P w K mg base N x (defScope st) f cdv A outer s H E) (fun _ : Unit => O) (defBody st) g ∧ ∀ ds Qr, ds.length = n → F ds Qr → g { nx := fun _ => Qr (.o .none), rt := Qr } (dstart N (.ob :: ds.map .im))) : Def3 P w K mg base (k + 1) x ps (spD K φ n F) := by
 obtain ⟨f, fd, Fu, m⟩ := T.ex
 refine ⟨f, fd, Fu.ok S (spD_len hn) (fun cdv A outer s H vs Q E hr h => ?_), m, Fu.kp, Fu.binds hb⟩
 obtain ⟨O, ds, ws, Qr, ok, hφ, p, hl, rfl, is, q, kk⟩ := h
 obtain ⟨g, ⟨t, h1, h2⟩, h3⟩ := body f cdv A outer s H E O hφ (ctx_body hr)
 exact ⟨t, h1 (), run_D (h2 ()) ok p is (h3 ds Qr hl q) kk⟩
end
end L3
namespace L3
open PySem PySem.Spec
open PyProof.Rows hiding St
open L2
structure PotStp (a l : Addr) (H H' : Hp) : Prop where
 oth : ∀ b, b ≠ a → b ≠ l → H' b = H b
theorem PotStp.refl (a l : Addr) (H : Hp) : PotStp a l H H := ⟨fun _ _ _ => rfl⟩
theorem PotStp.trans {a l : Addr} {H H1 H2 : Hp} (x : PotStp a l H H1) (y : PotStp a l H1 H2) : PotStp a l H H2 := ⟨fun b h1 h2 => (y.oth b h1 h2).trans (x.oth b h1 h2)⟩
theorem PotStp.upA {a l : Addr} {H : Hp} (o : HO) : PotStp a l H (upd H a o) := ⟨fun b h1 _ => upd_ne h1⟩
theorem PotStp.upL {a l : Addr} {H : Hp} (o : HO) : PotStp a l H (upd H l o) := ⟨fun b _ h2 => upd_ne h2⟩
abbrev lenR (K : PySem.W.Frag) : List V → Hp → VK → Prop := fun xs H Q => ∃ x n, xs = [x] ∧ LenV K x H n ∧ Q (.int n) H
def drawF : List PyData → (R → Prop) → Prop := fun ds Q => ∃ m : Int, ds = [.int m] ∧ 0 < m ∧ m < 1073741824 ∧ ∀ k, 0 ≤ k → k < m → Q (.o (.int k))
theorem mtr_popAt {X : Cx} : MtR X "list.pop" rPopAt := fun pins s σ H x xs v us Q I rx rv h => mt_popAt pins s σ H x xs v us Q I rx rv h
theorem cutV_map (ns : List Int) (lo hi : Option Int) : cutV (ns.map V.int) lo hi = (cutL ns lo hi).map V.int := by
 unfold cutV cutL
 rw [List.length_map, List.map_take, List.map_drop]
def abc : List Nat := (List.range 26).map (· + 97)
def isLow (c : Nat) : Prop := 97 ≤ c ∧ c < 123
def lettersF : List PyData → (R → Prop) → Prop := fun ds Q => ∃ m : Int, ds = [.int m] ∧ 0 ≤ m ∧ m ≤ 26 ∧ ∀ w : List Nat, (w.length : Int) = m → (∀ c ∈ w, isLow c) → w.Pairwise (· < ·) → Q (.o (.str (tx w)))
def tLetters (K : PySem.W.Frag) (drawSp : Sp) : TS :=
 tSeq (tAsg (tCB rListS (tCons (tC (.str "abcdefghijklmnopqrstuvwxyz")) tNil)) (gName 2))
 (tRet (tBM K "str" rJoin (tC (.str "")) (tCons (tCB rSortS (tCons (tComp 1 (iRng1 (tCons (tVar 1) tNil)) (gName 0) tYes (tBM K "list" rPopAt (tVar 3) (tCons (tCall drawSp [] E0 (tCons (tVar 1) (tCons (tCB (lenR K) (tCons (tVar 3) tNil)) tNil))) tNil))) tNil)) tNil)))
theorem join_fold : ∀ (l : List Nat) (acc : Array Nat), (l.map sg).foldl (fun acc p => acc ++ (Str.ofString "").cps ++ p.cps) acc = acc ++ l.toArray
 | [], acc => by simp
 | c :: r, acc => by
   rw [List.map_cons, List.foldl_cons, join_fold r]
   have e : (Str.ofString "").cps = #[] := by decide +kernel
   rw [e]
   apply Array.toList_inj.mp
   simp [sg]
theorem join_sg (w : List Nat) : Txt.join "" (w.map sg) = tx w := by
 cases w with
 | nil => decide +kernel
 | cons c r =>
   show Builtin.Str.glued (Str.ofString "") (sg c :: r.map sg) = tx (c :: r)
   unfold Builtin.Str.glued
   show (⟨(r.map sg).foldl _ (sg c).cps⟩ : Str) = _
   rw [join_fold]
   unfold tx sg
   congr 1
   apply Array.toList_inj.mp
   simp
theorem sg_len (c : Nat) : (sg c).length = 1 := rfl
theorem sum_sg (w : List Nat) : ((w.map sg).map (·.length)).sum = w.length := by
 induction w with
 | nil => rfl
 | cons c r ih => rw [List.map_cons, List.map_cons, List.sum_cons, ih, sg_len, List.length_cons]; omega
theorem unsg : ∀ {zs : List Str}, (∀ z ∈ zs, ∃ c, z = sg c ∧ isLow c) → ∃ w : List Nat, zs = w.map sg ∧ ∀ c ∈ w, isLow c
 | [], _ => ⟨[], rfl, by simp⟩
 | z :: zs, h => by
   obtain ⟨c, rfl, hc⟩ := h z List.mem_cons_self
   obtain ⟨w, rfl, hw⟩ := unsg (zs := zs) fun y hy => h y (List.mem_cons_of_mem _ hy)
   exact ⟨c :: w, rfl, fun d hd => by rcases List.mem_cons.mp hd with e | e; (rw [e]; exact hc); exact hw d e⟩
theorem erase_map {α β : Type} (f : α → β) : ∀ (l : List α) (i : Nat), (l.map f).eraseIdx i = (l.eraseIdx i).map f
 | [], _ => rfl
 | _ :: _, 0 => rfl
 | a :: l, i + 1 => by rw [List.map_cons, List.eraseIdx_cons_succ, List.eraseIdx_cons_succ, List.map_cons, erase_map f l i]
theorem eraseIdx_mem {α : Type} {l : List α} {i : Nat} {x : α} (h : x ∈ l.eraseIdx i) : x ∈ l := List.mem_of_mem_eraseIdx h
theorem perm_pick {α : Type} : ∀ {l : List α} {i : Nat} (h : i < l.length), ([l[i]] ++ l.eraseIdx i).Perm l
 | a :: l, 0, _ => .refl _
 | a :: l, i + 1, h => by
   have h' : i < l.length := by simpa using h
   have ih := perm_pick (l := l) (i := i) h'
   show (l[i] :: a :: l.eraseIdx i).Perm (a :: l)
   exact (List.Perm.swap a l[i] _).trans (List.Perm.cons a ih)
theorem sg_inj {a b : Nat} (h : sg a = sg b) : a = b := by
 have := congrArg (fun x : Str => x.cps.toList) h
 simpa [sg] using this
theorem risingS_inc : ∀ {w : List Nat} {x : Nat}, risingS (sg x) (w.map sg) = true → (∀ c ∈ w, x ≤ c) ∧ w.Pairwise (· ≤ ·)
 | [], _, _ => ⟨fun _ h => (nomatch h), .nil⟩
 | y :: r, x, h => by
   have h : (!(decide (y < x) || (y == x && false)) && risingS (sg y) (r.map sg)) = true := h
   rw [Bool.and_false, Bool.or_false, Bool.and_eq_true, Bool.not_eq_true', decide_eq_false_iff_not] at h
   obtain ⟨h1, h2⟩ := risingS_inc (w := r) (x := y) h.2
   refine ⟨fun c hc => ?_, .cons h1 h2⟩
   rcases List.mem_cons.mp hc with rfl | hc
   · omega
   · have := h1 c hc
     omega
theorem sorted_inc : ∀ {w : List Nat}, sortedS (w.map sg) = true → w.Nodup → w.Pairwise (· < ·)
 | [], _, _ => .nil
 | x :: r, h, hn => by
   obtain ⟨h1, h2⟩ := risingS_inc (w := r) (x := x) h
   obtain ⟨n1, n2⟩ := List.nodup_cons.mp hn
   refine .cons (fun c hc => Nat.lt_of_le_of_ne (h1 c hc) fun e => n1 (e ▸ hc)) ?_
   exact (List.Pairwise.and h2 n2).imp fun ⟨a, b⟩ => Nat.lt_of_le_of_ne a b
end L3
namespace L3
open PySem PySem.Spec
open PyProof.Rows hiding St
open L2
theorem eqF_str {neg : Bool} {x y : Str} (hx : PyData.strOk x = true) (hy : PyData.strOk y = true) : eqF neg (.str x) (.str y) = some (.o (.bool (if neg then !(x == y) else x == y))) := by
 unfold eqF
 rw [if_pos (by simp [okD, PyData.canLay0, PyData.depth, hx, hy])]
 rfl
theorem tx_inj {v w : List Nat} (h : tx v = tx w) : v = w := by
 have := congrArg (fun x : Str => x.cps.toList) h
 simpa [tx] using this
theorem eqF_int {neg : Bool} {i j : Int} : eqF neg (.int i) (.int j) = some (.o (.bool (if neg then !decide (i = j) else decide (i = j)))) := by
 unfold eqF
 have e : (okD (PyData.int i) && (PyData.int j).canLay0) = true := by simp [okD, PyData.canLay0, PyData.depth]
 rw [if_pos e]
 rfl
theorem comp_of {α : Type} {enc : α → PyData} {i : Nat} {fe : DE} {ρ : DSt} {Q : List PyData → Prop} {as : List α} {e : α → PyData} {h : Nat} (step : ∀ a ∈ as, ∀ P : R → Prop, (∀ r, r.d = e a → P r) → fe ((List.replicate h none ++ ρ).set i (some (.im (enc a)))) P) (hz : as.length ≤ sizeLine) (q : Q (as.map e)) :
   compGo h (gN i) yesD fe ρ Q (as.map enc) [] := by
 have key : ∀ (as : List α) (acc : List PyData), (∀ a ∈ as, ∀ P : R → Prop, (∀ r, r.d = e a → P r) → fe ((List.replicate h none ++ ρ).set i (some (.im (enc a)))) P) → acc.length + as.length ≤ sizeLine → Q (acc ++ as.map e) → compGo h (gN i) yesD fe ρ Q (as.map enc) acc := by
   intro as
   induction as with
   | nil => intro acc _ _ q; show Q acc; simpa using q
   | cons a as ih =>
     intro acc st hz q
     rw [List.length_cons] at hz
     refine st a List.mem_cons_self _ fun r hr => ?_
     refine ⟨by omega, ?_⟩
     rw [hr]
     exact ih (acc ++ [e a]) (fun a' ha => st a' (List.mem_cons_of_mem _ ha)) (by rw [List.length_append]; simp; omega) (by simpa using q)
 exact key as [] step (by simpa using hz) (by simpa using q)
theorem forGo_rev {g : DG} {gb : DS} {Dd : DEnds} {ds : List PyData} {ρ : DSt} (J : Nat → DSt → Prop) (h0 : J 0 ρ) (fin : ∀ ρ, J ds.length ρ → Dd.nx ρ)
   (step : ∀ (j : Nat) d ρ (N : DSt → Prop), ds[j]? = some d → (∀ ρ', J (j + 1) ρ' → N ρ') → J j ρ → flat d = true ∧ g d ρ fun ρ2 => gb { Dd with nx := N, ct := N, bk := Dd.nx } ρ2) : forGo g gb Dd ds ρ := by
 have key : ∀ (k j : Nat), j + k = ds.length → ∀ ρ, J j ρ → forGo g gb Dd (ds.drop j) ρ := by
   intro k
   induction k with
   | zero =>
     intro j hj ρ h
     rw [List.drop_eq_nil_of_le (by omega)]
     have e : j = ds.length := by omega
     rw [e] at h
     exact fin ρ h
   | succ k ih =>
     intro j hj ρ h
     have hlt : j < ds.length := by omega
     rw [List.drop_eq_getElem_cons hlt]
     exact step j ds[j] ρ _ (List.getElem?_eq_getElem hlt) (fun ρ' h' => ih (j + 1) (by omega) ρ' h') h
 have := key ds.length 0 (by omega) ρ h0
 simpa using this
theorem sgs_len (w : List Nat) : (sgs (tx w)).length = w.length := by simp [sgs, tx]
theorem sgs_get {w : List Nat} {j : Nat} {d : PyData} (h : (sgs (tx w))[j]? = some d) : ∃ c, w[j]? = some c ∧ d = .str (sg c) := by
 unfold sgs at h
 rw [tx_toList, List.getElem?_map] at h
 obtain ⟨c, hc, rfl⟩ := Option.map_eq_some_iff.mp h
 exact ⟨c, hc, rfl⟩
end L3
namespace L3
open PySem PySem.Spec
open PyProof.Rows hiding St
open L2
abbrev LowW (w : List Nat) : Prop := ∀ c ∈ w, isLow c
theorem tx_len (w : List Nat) : (tx w).length = w.length := by simp [tx, Str.length]
theorem len_tx {w : List Nat} (h : w.length ≤ 16777216) : lenF [.str (tx w)] = some (.o (.int w.length)) := by
 unfold lenF
 dsimp only
 rw [tx_len, if_pos (by rw [sizeLine_eq]; exact h)]
theorem idx_tx {w : List Nat} {k : Nat} (h : k < w.length) (hl : w.length ≤ 16777216) : idxF (.str (tx w)) (.int (k : Nat)) = some (.o (.str (tx [w[k]]))) := by
 unfold idxF
 dsimp only
 rw [tx_len, if_pos (by rw [sizeLine_eq]; exact hl), tx_toList, atI_nat (v := w[k]) (by rw [List.getElem?_eq_getElem h])]
 rfl
theorem add_tx {v w : List Nat} (h : v.length + w.length ≤ 16777216) : addF (.str (tx v)) (.str (tx w)) = some (.o (.str (tx (v ++ w)))) := by
 unfold addF
 dsimp only
 rw [tx_len, tx_len, if_pos (by rw [sizeLine_eq]; exact h)]
 have e : tx v ++ tx w = tx (v ++ w) := by
   show Str.mk _ = Str.mk _
   simp [tx]
 rw [e]
theorem sIx_nat (n d m : Nat) : HT.sIx n d (some (m : Int)) = min m n := by
 have := sIx_clip n d (m : Int)
 rw [if_neg (by omega)] at this
 omega
theorem sIx_none (n d : Nat) : HT.sIx n d none = d := rfl
theorem cut_to {α : Type} (xs : List α) (m : Nat) : cutL xs none (some (m : Int)) = xs.take m := by
 unfold cutL
 rw [sIx_nat, sIx_none, List.drop_zero, Nat.sub_zero, List.take_eq_take_min, Nat.min_assoc, Nat.min_self, ← List.take_eq_take_min]
theorem sl_tx {v : List Nat} {lo hi : Option Int} (h : v.length ≤ 16777216) : slcF lo hi (.str (tx v)) = some (.o (.str (tx (cutL v lo hi)))) := by
 unfold slcF
 dsimp only
 rw [tx_len, tx_toList, if_pos (by rw [sizeLine_eq]; exact h)]
theorem draw_k {o : Nat} {m : Int} {ρ : DSt} {Q : R → Prop} (hρ : ρ[o]? = some (some .ob)) (h0 : 0 < m) (h1 : m < 1073741824) (q : ∀ k : Nat, (k : Int) < m → Q (.o (.int (k : Nat)))) : calO o 1 drawF (aCons (cD (.int m)) aNil) ρ Q := by
 refine ⟨hρ, rfl, m, rfl, h0, h1, fun k k0 k1 => ?_⟩
 have := q k.toNat (by omega)
 rwa [show ((k.toNat : Nat) : Int) = k by omega] at this
theorem draw_len {o i : Nat} {d : PyData} {n : Nat} {ρ : DSt} {Q : R → Prop} (hρ : ρ[o]? = some (some .ob)) {v : DV} (hi : ρ[i]? = some (some v)) (hv : seeR v = some d) (hl : lenF [d] = some (.o (.int (n : Nat)))) (h0 : 0 < n) (h1 : n < 1073741824) (q : ∀ k : Nat, k < n → Q (.o (.int (k : Nat)))) :
   calO o 1 drawF (aCons (callDE (fn1 lenF) (aCons (vD i) aNil)) aNil) ρ Q := by
 refine ⟨hρ, _, _, hi, hv, _, hl, rfl, _, rfl, by omega, by omega, fun k k0 k1 => ?_⟩
 have := q k.toNat (by omega)
 rwa [show ((k.toNat : Nat) : Int) = k by omega] at this
theorem at_letter {o i : Nat} {ls : List Nat} {ρ : DSt} {Q : R → Prop} (hρ : ρ[o]? = some (some .ob)) (hi : ρ[i]? = some (some (.im (.str (tx ls))))) (hn : ls ≠ []) (hl : ls.length ≤ 1000) (q : ∀ c ∈ ls, Q (.o (.str (tx [c])))) :
   opDE (fn2 idxF) (vD i) (calO o 1 drawF (aCons (callDE (fn1 lenF) (aCons (vD i) aNil)) aNil)) ρ Q := by
 have h0 : 0 < ls.length := List.length_pos_iff.mpr hn
 refine ⟨_, _, hi, rfl, draw_len hρ hi rfl (len_tx (by omega)) h0 (by omega) fun k hk => ⟨_, idx_tx hk (by omega), q _ (List.getElem_mem hk)⟩⟩
theorem comp_gen {α β : Type} {enc : α → PyData} {enc2 : β → PyData} {good : β → Prop} {i h : Nat} {ft : DT} {fe : DE} {ρ : DSt} {Q : List PyData → Prop} {as : List α}
   (step : ∀ a ∈ as, ∀ (Pn : Prop) (Py : PyData → Prop), Pn → (∀ b, good b → Py (enc2 b)) → ft ((List.replicate h none ++ ρ).set i (some (.im (enc a)))) fun t => if t = true then fe ((List.replicate h none ++ ρ).set i (some (.im (enc a)))) (fun r => Py r.d) else Pn)
   (hz : as.length ≤ 1000) (q : ∀ bs : List β, (∀ b ∈ bs, good b) → bs.length ≤ as.length → Q (bs.map enc2)) : compGo h (gN i) ft fe ρ Q (as.map enc) [] := by
 have sz := sizeLine_eq
 have key : ∀ (l : List α) (bs : List β), (∀ a ∈ l, a ∈ as) → (∀ b ∈ bs, good b) → bs.length + l.length ≤ as.length → compGo h (gN i) ft fe ρ Q (l.map enc) (bs.map enc2) := by
   intro l
   induction l with
   | nil => intro bs _ hb hl; exact q bs hb hl
   | cons a l ih =>
     intro bs hs hb hl
     rw [List.length_cons] at hl
     refine step a (hs a List.mem_cons_self) _ (fun d => (bs.map enc2).length < sizeLine ∧ compGo h (gN i) ft fe ρ Q (l.map enc) (bs.map enc2 ++ [d])) (ih bs (fun x hx => hs x (List.mem_cons_of_mem _ hx)) hb (by omega)) fun b gb => ⟨by rw [List.length_map]; omega, ?_⟩
     have := ih (bs ++ [b]) (fun x hx => hs x (List.mem_cons_of_mem _ hx)) (fun x hx => by rcases List.mem_append.mp hx with hx | hx; (exact hb x hx); (rw [List.mem_singleton.mp hx]; exact gb)) (by rw [List.length_append]; simp; omega)
     rwa [List.map_append] at this
 exact key as [] (fun _ h => h) (by simp) (by simp)
theorem join_ys (ws : List Nat) (hl : ws.length ≤ 1000) : ∃ ys : List Str, PyData.list (ws.map fun c => .str (tx [c])) = .list (ys.map .str) ∧ (ys.map (·.length)).sum + ys.length * (Str.ofString "").length ≤ 16777216 ∧ Txt.join "" ys = tx ws := by
 refine ⟨ws.map sg, by rw [List.map_map]; rfl, ?_, join_sg ws⟩
 have e0 : (Str.ofString "").length = 0 := by decide +kernel
 rw [sum_sg, e0]
 omega
def spLaw (K : PySem.W.Frag) : Sp := fun vs H Q _ => ∃ (a : Addr) (ns : List Int), vs = [.ref a] ∧ SqL K H a (ns.map V.int) ∧ ns.length ≤ 63 ∧ ∀ H', Q (.bl true) H'
end L3
namespace L3
section
open PySem PySem.Builtin PySem.Builtin.Str
def sOk (x : PySem.Str) : Prop := ∀ c ∈ x.cps.toList, c < 0x110000
theorem strOk_iff {x : PySem.Str} : PyData.strOk x = true ↔ sOk x := by
 unfold PyData.strOk sOk
 rw [Array.all_eq_true']
 simp
theorem sOk_app {x y : PySem.Str} (hx : sOk x) (hy : sOk y) : sOk (x ++ y) := by
 intro c hc
 have e : (x ++ y).cps.toList = x.cps.toList ++ y.cps.toList := by
   show (x.cps ++ y.cps).toList = _
   simp
 rw [e] at hc
 rcases List.mem_append.mp hc with hc | hc
 · exact hx c hc
 · exact hy c hc
theorem char_lt (c : Char) : c.toNat < 0x110000 := by
 have := c.valid
 rcases this with h | h
 · exact Nat.lt_trans h (by decide)
 · exact h.2
theorem sOk_of (s : String) : sOk (PySem.Str.ofString s) := by
 intro c hc
 have : c ∈ (s.toList.map Char.toNat) := by rw [PySem.Str.ofString_eq_toList] at hc; simpa using hc
 obtain ⟨d, _, rfl⟩ := List.mem_map.mp this
 exact char_lt d
theorem sOk_join {sep : PySem.Str} (hs : sOk sep) : ∀ {l : List PySem.Str}, (∀ x ∈ l, sOk x) → sOk (PySem.Str.join sep l)
 | [], _ => fun c hc => by cases hc
 | [x], h => h x (by simp)
 | x :: y :: r, h => sOk_app (sOk_app (h x (by simp)) hs) (sOk_join hs (l := y :: r) fun z hz => h z (List.mem_cons_of_mem _ hz))
theorem rc_ok {q c : Nat} (hc : c < 0x110000) : ∀ x ∈ reprChar q c, x < 0x110000 := by
 have hex : ∀ w : Nat, ∀ x ∈ (List.replicate (w - ((Nat.toDigits 16 c).map Char.toNat).length) 48 ++ (Nat.toDigits 16 c).map Char.toNat), x < 0x110000 := by
   intro w x hx
   rcases List.mem_append.mp hx with hx | hx
   · rw [(List.mem_replicate.mp hx).2]; decide
   · obtain ⟨d, _, rfl⟩ := List.mem_map.mp hx
     exact char_lt d
 have two : ∀ a b : Nat, a < 0x110000 → b < 0x110000 → ∀ x ∈ [a, b], x < 0x110000 := by
   intro a b ha hb x hx
   rcases List.mem_cons.mp hx with rfl | hx
   · exact ha
   · rw [List.mem_singleton.mp hx]; exact hb
 have tw : ∀ a b w : Nat, a < 0x110000 → b < 0x110000 → ∀ x ∈ [a, b] ++ (List.replicate (w - ((Nat.toDigits 16 c).map Char.toNat).length) 48 ++ (Nat.toDigits 16 c).map Char.toNat), x < 0x110000 := by
   intro a b w ha hb x hx
   rcases List.mem_append.mp hx with hx | hx
   · exact two a b ha hb x hx
   · exact hex w x hx
 intro x
 unfold reprChar
 dsimp only
 split
 · exact two _ _ (by decide) hc x
 split
 · exact two _ _ (by decide) (by decide) x
 split
 · exact two _ _ (by decide) (by decide) x
 split
 · exact two _ _ (by decide) (by decide) x
 split
 · intro hx; rw [List.mem_singleton.mp hx]; exact hc
 split
 · exact tw _ _ 2 (by decide) (by decide) x
 split
 · exact tw _ _ 4 (by decide) (by decide) x
 · exact tw _ _ 8 (by decide) (by decide) x
theorem sOk_repr {x : PySem.Str} (h : sOk x) : sOk (reprText x) := by
 have key : ∀ (q : Nat) (l : List Nat) (acc : Array Nat), (∀ c ∈ l, c < 0x110000) → (∀ c ∈ acc.toList, c < 0x110000) → ∀ c ∈ (l.foldl (fun out c => out ++ (reprChar q c).toArray) acc).toList, c < 0x110000 := by
   intro q l
   induction l with
   | nil => intro acc _ ha; exact ha
   | cons c l ih =>
     intro acc hl ha
     refine ih _ (fun d hd => hl d (List.mem_cons_of_mem _ hd)) fun d hd => ?_
     rw [Array.toList_append] at hd
     rcases List.mem_append.mp hd with hd | hd
     · exact ha d hd
     · exact rc_ok (hl c List.mem_cons_self) d (by simpa using hd)
 have hq : reprQuote x < 0x110000 := by unfold reprQuote; split <;> decide
 intro c hc
 unfold reprText at hc
 rw [Array.toList_push, ← Array.foldl_toList] at hc
 rcases List.mem_append.mp hc with hc | hc
 · have h0 : ∀ d ∈ (#[reprQuote x] : Array Nat).toList, d < 0x110000 := fun d hd => by
     have e : d = reprQuote x := by simpa using hd
     rw [e]
     exact hq
   exact key _ _ _ h h0 c hc
 · rw [List.mem_singleton.mp hc]; exact hq
end
open PySem PySem.Spec
open PyProof.Rows hiding St
open L2
mutual
theorem sOk_shown : ∀ d : PyData, d.canLay0 = true → sOk d.shown
 | .none, _ => by rw [PyData.shown_none]; exact sOk_of _
 | .bool b, _ => by rw [PyData.shown_bool]; cases b <;> exact sOk_of _
 | .int i, _ => by rw [PyData.shown_int]; exact sOk_of _
 | .str x, h => by rw [PyData.shown_str]; exact sOk_repr (strOk_iff.mp (by simpa [PyData.canLay0] using h))
 | .list xs, h => by
   rw [PyData.shown_list]
   exact sOk_app (sOk_app (sOk_of _) (sOk_join (sOk_of _) (sOk_shownAll xs (by simpa [PyData.canLay0] using h)))) (sOk_of _)
 | .tuple xs, h => by
   rw [PyData.shown_tuple]
   exact sOk_app (sOk_app (sOk_of _) (sOk_join (sOk_of _) (sOk_shownAll xs (by simpa [PyData.canLay0] using h)))) (sOk_of _)
 | .dict _, h => by simp [PyData.canLay0] at h
theorem sOk_shownAll : ∀ xs : List PyData, PyData.canLayAll0 xs = true → ∀ x ∈ PyData.shownAll xs, sOk x
 | [], _, _, hx => by simp [PyData.shownAll] at hx
 | d :: xs, h, x, hx => by
   rw [PyData.canLayAll0, Bool.and_eq_true] at h
   rw [PyData.shownAll_cons] at hx
   rcases List.mem_cons.mp hx with e | hx
   · rw [e]; exact sOk_shown d h.1
   · exact sOk_shownAll xs h.2 x hx
end
theorem repr_ok {d : PyData} (h1 : d.canLay0 = true) (h2 : d.showable = true) (h3 : d.depth ≤ 60) (h4 : d.leavesShort 13 = true) (h5 : d.bulk ≤ 2 ^ 20) : ∃ x, reprF [d] = some (.o (.str x)) ∧ PyData.strOk x = true := by
 refine ⟨d.shown, ?_, strOk_iff.mpr (sOk_shown d h1)⟩
 unfold reprF
 dsimp only
 rw [if_pos]
 rw [h2, PyData.hasDict_of_canLay d h1, decide_eq_true h3, decide_eq_true (PyData.shown_fits_bulk (B := 13) (by decide) (by decide) h4 h5)]
 rfl
theorem short_str {x : Str} (h : PyData.strOk x = true) {B : Nat} : (PyData.str x).leavesShort B = true := by
 have h := strOk_iff.mp h
 rw [PyData.leavesShort, List.all_eq_true]
 intro c hc
 have := h c hc
 exact decide_eq_true (by omega)
end L3
namespace L3
open PySem PySem.Spec
open PyProof.Rows hiding St
open L2
theorem noFill_tuple_mul : fillsNumberSlot (.type "tuple") "mul" = pure false :=
 PySem.fillsNumberSlot_seq (id := "tuple.__mul__") (r := some (.builtin "tuple.__rmul__")) F.slot_tuple_mul.lookup (by decide +kernel) F.slot_tuple_rmul.lookup (by decide +kernel)
theorem repeat_tuple : seqRepeat? (.type "tuple") = pure (some (.builtin "tuple.__mul__")) := by
 unfold seqRepeat?
 rw [PySem.seqSlot_of (T := "tuple") (name := "__mul__") (id := "tuple.__mul__") F.slot_tuple_mul.lookup (by decide +kernel), PySem.seqSlot_of (T := "tuple") (name := "__rmul__") (id := "tuple.__rmul__") F.slot_tuple_rmul.lookup (by decide +kernel)]
 rfl
theorem int_rmul_tuple (a : Int) (t : Tok) (l : Addr) (items : Array Value) (n : Nat) (dd : Option Addr) (sl : Array (Option Value)) :
   Meets (Builtin.«int.__rmul__» ⟨[.int a t, .ref l], []⟩) (fun _ R s => s.heap.get? l = some { cls := .type "tuple", dict := dd, data := .seq items n, slots := sl } ∧ R (.ok (.ret Value.notImplemented)) s) :=
 .of_wp fun prog w A R s h => by obtain ⟨hp, g, d, tk, os⟩ := s; obtain ⟨hl, h⟩ := h; wp_walk; exact ⟨_, rfl, h⟩
theorem tuple_mul_same (l : Addr) (items : Array Value) (n : Nat) (dd : Option Addr) (sl : Array (Option Value)) (x : Int) (u : Tok) (hr : (decide (x < -2 ^ 63) || decide (x ≥ 2 ^ 63)) = false) (h1 : (items.isEmpty || x == 1) = true) :
   Meets (Builtin.«tuple.__mul__» ⟨[.ref l, .int x u], []⟩) (fun _ R s => s.heap.get? l = some { cls := .type "tuple", dict := dd, data := .seq items n, slots := sl } ∧ R (.ok (.ret (.ref l))) s) :=
 .of_wp fun prog w A R s h => by obtain ⟨hp, g, d, tk, os⟩ := s; obtain ⟨hl, h⟩ := h; wp_walk; refine wpAny_ite_false (decide_eq_false (by rw [hr]; exact Bool.false_ne_true)) ?_; wp_walk; exact ⟨_, rfl, h⟩
theorem tuple_mul_none (l : Addr) (items : Array Value) (n : Nat) (dd : Option Addr) (sl : Array (Option Value)) (x : Int) (u : Tok) (hr : (decide (x < -2 ^ 63) || decide (x ≥ 2 ^ 63)) = false) (h1 : ¬ (items.isEmpty || x == 1) = true) (h2 : (decide (x ≤ 0) || items.isEmpty) = true) :
   Meets (Builtin.«tuple.__mul__» ⟨[.ref l, .int x u], []⟩) (fun _ R s => s.heap.get? l = some { cls := .type "tuple", dict := dd, data := .seq items n, slots := sl } ∧ R (.ok (.ret (.ref s.heap.objs.size))) { s with heap := s.heap.push { cls := Value.type "tuple", data := Data.seq #[] }, toks := s.toks }) :=
 .of_wp fun prog w A R s h => by obtain ⟨hp, g, d, tk, os⟩ := s; obtain ⟨hl, h⟩ := h; wp_walk; refine wpAny_ite_false (decide_eq_false (by rw [hr]; exact Bool.false_ne_true)) ?_; wp_walk; exact ⟨_, rfl, h⟩
theorem tuple_mul_more (l : Addr) (items : Array Value) (n : Nat) (dd : Option Addr) (sl : Array (Option Value)) (x : Int) (u : Tok) (hr : (decide (x < -2 ^ 63) || decide (x ≥ 2 ^ 63)) = false) (h1 : ¬ (items.isEmpty || x == 1) = true) (h2 : ¬ (decide (x ≤ 0) || items.isEmpty) = true) (h3 : ¬ (items.size : Int) * x > (2 ^ 63 - 1) / 8) (h4 : ¬ Builtin.Tuple.tupleTooMany ((items.size : Int) * x) = true) (h5 : (List.foldl (fun x1 x2 => x1 ++ x2) #[] (List.replicate x.toNat items)).size ≤ sizeLine) :
   Meets (Builtin.«tuple.__mul__» ⟨[.ref l, .int x u], []⟩) (fun _ R s => s.heap.get? l = some { cls := .type "tuple", dict := dd, data := .seq items n, slots := sl } ∧ R (.ok (.ret (.ref s.heap.objs.size))) { s with heap := s.heap.push { cls := Value.type "tuple", data := Data.seq (List.foldl (fun x1 x2 => x1 ++ x2) #[] (List.replicate x.toNat items)) }, toks := s.toks }) :=
 .of_wp fun prog w A R s h => by obtain ⟨hp, g, d, tk, os⟩ := s; obtain ⟨hl, h⟩ := h; wp_walk; refine wpAny_ite_false (decide_eq_false (by rw [hr]; exact Bool.false_ne_true)) ?_; wp_walk; refine wpAny_ite_false (decide_eq_false h3) ?_; wp_walk; exact ⟨_, rfl, h⟩
section
variable {X : Cx}
def rRepT (K : PySem.W.Frag) : R2 := fun x y H Q => ∃ a k xs, x = .ref a ∧ y = .int k ∧ SqT K H a xs ∧ -(2 ^ 63) ≤ k ∧ k < 2 ^ 63 ∧ xs.length * k.toNat ≤ sizeLine ∧
 ((xs = [] ∨ k = 1) → Q (.ref a) H) ∧ (¬ (xs = [] ∨ k = 1) → ∀ p, H p = none → Q (.ref p) (upd H p (.tup (List.replicate k.toNat xs).flatten)))
theorem op_repT : OpR X (binaryOp .Mult) (rRepT X.K) := by
 intro pins s σ H x y v u Q I rx ry h
 obtain ⟨a, k, xs, rfl, rfl, hS, h1, h2, hz, q1, q2⟩ := h
 cases rx
 obtain ⟨t, rfl⟩ := ry
 obtain ⟨its, r1, p1, _⟩ := I.tuple hS
 obtain ⟨⟨cls, dd, data, sl⟩, ho, hc, n, hd⟩ := id p1
 simp only at hc hd
 subst hc hd
 have hlen := r1.length
 have hr : (decide (k < -2 ^ 63) || decide (k ≥ 2 ^ 63)) = false := by
   rw [decide_eq_false (by omega), decide_eq_false (by omega)]; rfl
 have nil : its.toArray.isEmpty = true ↔ xs = [] := by
   rw [← r1.nil_iff]
   simp
 have go : ∀ {R : Value → Shared → Prop}, wpAny (model X.prog X.w) X.A (call (.builtin "tuple.__mul__") [.ref a, .int k t]) R X.xe s → wpAny (model X.prog X.w) X.A (binaryOp .Mult (.ref a) (.int k t)) R X.xe s := fun {R} hh =>
   wpAny_binaryOp_repeat_ref (T := "tuple") (U := "int") (by decide) ⟨_, ho, rfl⟩ (fun s' => typeIs_int s' k t) noFill_tuple_mul F.fills_int_mul F.slot_int_rmul repeat_tuple F.slot_int_index.lookup
     (call_meets F.slot_int_rmul (typeIs_int s k t) F.entry_int_rmul (F.args_int_rmul_2 _ _) (int_rmul_tuple k t a its.toArray n dd sl) ⟨ho, rfl, ⟨_, ho, rfl⟩, hh⟩)
 by_cases hc : xs = [] ∨ k = 1
 · refine go (call_meets F.slot_tuple_mul ⟨_, ho, rfl⟩ F.entry_tuple_mul (F.args_tuple_mul_2 _ _) (tuple_mul_same a its.toArray n dd sl k t hr ?_) ⟨ho, ⟨.ref a, H, I, rfl, q1 hc⟩⟩)
   rcases hc with e | e
   · rw [nil.mpr e]; rfl
   · rw [e]; simp
 · have hx : xs ≠ [] := fun e => hc (.inl e)
   have hk : k ≠ 1 := fun e => hc (.inr e)
   have hne : its.toArray.isEmpty = false := by
     cases e : its.toArray.isEmpty with
     | false => rfl
     | true => exact absurd (nil.mp e) hx
   have hb : ¬ (its.toArray.isEmpty || k == 1) = true := by rw [hne]; simp [hk]
   by_cases h0 : k ≤ 0
   · refine go (call_meets F.slot_tuple_mul ⟨_, ho, rfl⟩ F.entry_tuple_mul (F.args_tuple_mul_2 _ _) (tuple_mul_none a its.toArray n dd sl k t hr hb (by rw [decide_eq_true h0]; rfl)) ⟨ho, ?_⟩)
     have e0 : k.toNat = 0 := by omega
     have q := q2 hc s.heap.objs.size (I.hok.fresh (Nat.le_refl _))
     rw [e0] at q
     exact ⟨.ref s.heap.objs.size, _, I.laid (t' := s.toks) (o := .tup []) (fun b ob q => Heap.get?_push_of_some _ q) (Nat.le_refl _) ⟨Nat.zero_le _, _, .nil, IsTup.new _ _⟩, rfl, q⟩
   · have hsz : (its.toArray.size : Int) * k = ((xs.length * k.toNat : Nat) : Int) := by
       rw [List.size_toArray, ← hlen]
       rw [Int.natCast_mul]
       congr 1
       omega
     have hnew : List.foldl (fun x1 x2 => x1 ++ x2) #[] (List.replicate k.toNat its.toArray) = (List.replicate k.toNat its).flatten.toArray := by
       have := foldl_rep its k.toNat []
       rw [List.nil_append] at this
       exact this
     have sz := sizeLine_eq
     refine go (call_meets F.slot_tuple_mul ⟨_, ho, rfl⟩ F.entry_tuple_mul (F.args_tuple_mul_2 _ _) (tuple_mul_more a its.toArray n dd sl k t hr hb (by rw [hne, decide_eq_false h0]; exact Bool.false_ne_true) (by rw [hsz]; omega) (by rw [hsz]; unfold Builtin.Tuple.tupleTooMany; rw [decide_eq_false (by omega)]; exact Bool.false_ne_true) (by rw [hnew, List.size_toArray, len_rep, ← hlen, Nat.mul_comm]; exact hz)) ⟨ho, ?_⟩)
     rw [hnew]
     exact ⟨.ref s.heap.objs.size, _, I.laid (t' := s.toks) (o := .tup (List.replicate k.toNat xs).flatten) (fun b ob q => Heap.get?_push_of_some _ q) (Nat.le_refl _) ⟨by rw [len_rep, Nat.mul_comm]; exact hz, _, r1.rep k.toNat, IsTup.new _ _⟩, rfl, q2 hc _ (I.hok.fresh (Nat.le_refl _))⟩
def rRepS : R2 := fun x y H Q => ∃ i k, x = .str i ∧ y = .int k ∧ -(2 ^ 63) ≤ k ∧ k < 2 ^ 63 ∧ i.length * k.toNat ≤ sizeLine ∧ Q (.str (tx (List.replicate k.toNat i.cps.toList).flatten)) H
theorem foldl_repN (w : List Nat) : ∀ (k : Nat) (acc : List Nat), List.foldl (fun x1 x2 => x1 ++ x2) acc.toArray (List.replicate k w.toArray) = (acc ++ (List.replicate k w).flatten).toArray
 | 0, acc => by simp
 | k + 1, acc => by
   rw [List.replicate_succ, List.foldl_cons, List.append_toArray, foldl_repN w k (acc ++ w), List.replicate_succ, List.flatten_cons, List.append_assoc]
theorem op_repS : OpR X (binaryOp .Mult) rRepS := by
 intro pins s σ H x y v u Q I rx ry h
 obtain ⟨i, k, rfl, rfl, h1, h2, hz, q⟩ := h
 obtain ⟨t, rfl⟩ := rx
 obtain ⟨t2, rfl⟩ := ry
 have sz := sizeLine_eq
 have hr : (decide (k < -(2 ^ 63 : Int)) || decide (k ≥ 2 ^ 63)) = false := by
   rw [decide_eq_false (by omega), decide_eq_false (by omega)]; rfl
 have hlen : i.length = i.cps.toList.length := by simp [Str.length]
 have hnew : (⟨(List.replicate k.toNat i.cps).foldl (· ++ ·) #[]⟩ : Str) = tx (List.replicate k.toNat i.cps.toList).flatten := by
   have := foldl_repN i.cps.toList k.toNat []
   rw [List.nil_append] at this
   show Str.mk _ = Str.mk _
   rw [← this]
 refine PySem.P.mul_str hr (fun n1 nn => ?_) (fun n1 nn => ?_) ?_
 · have hk : 0 < k.toNat := by omega
   have h3 : i.length ≤ sizeLine := Nat.le_trans (Nat.le_mul_of_pos_right _ hk) hz
   intro hh
   have h4 : (i.length : Int) * k ≤ 16777216 := by
     have : ((i.length * k.toNat : Nat) : Int) ≤ 16777216 := by omega
     rwa [Int.natCast_mul, show ((k.toNat : Nat) : Int) = k by omega] at this
   have h5 := Int.lt_of_lt_of_le (Int.lt_mul_of_ediv_lt (by omega : (0 : Int) < k) hh) h4
   omega
 · unfold Builtin.Str.tooLong
   exact decide_eq_false (by omega)
 · by_cases c1 : k < 1
   · rw [if_pos c1]
     have e0 : k.toNat = 0 := by omega
     rw [e0] at q
     exact ⟨by decide, .str _, H, I.tok _, ⟨_, rfl⟩, q⟩
   · rw [if_neg c1]
     by_cases c2 : (k == 1 || i.length == 0) = true
     · rw [if_pos c2]
       have e1 : tx (List.replicate k.toNat i.cps.toList).flatten = i := by
         rcases (Bool.or_eq_true _ _).mp c2 with e | e
         · have : k = 1 := by simpa using e
           subst this
           show tx ([i.cps.toList] : List (List Nat)).flatten = i
           simp [tx]
         · have e : i.length = 0 := by simpa using e
           have e2 : i.cps.toList = [] := List.eq_nil_of_length_eq_zero (by omega)
           rw [e2]
           have : (List.replicate k.toNat ([] : List Nat)).flatten = [] := by simp
           rw [this]
           have e3 : i.cps = #[] := Array.toList_inj.mp e2
           cases i
           simp_all [tx]
       rw [e1] at q
       exact ⟨.str i, H, I, ⟨_, rfl⟩, q⟩
     · rw [if_neg c2]
       refine ⟨?_, .str _, H, I.tok _, ⟨_, rfl⟩, ?_⟩
       · show Str.length _ ≤ sizeLine
         rw [hnew, tx_len, len_rep, Nat.mul_comm, ← hlen]
         exact hz
       · show Q (.str _) H
         rw [hnew]
         exact q
end
def rMulU (K : PySem.W.Frag) : R2 := fun x y H Q => rI CMul (fun i j => .int (i * j)) x y H Q ∨ rRepS x y H Q ∨ rRep x y H Q ∨ rRepT K x y H Q
theorem op_mulU {X : Cx} : OpR X (binaryOp .Mult) (rMulU X.K) := op_mul.or (op_repS.or (op_rep.or op_repT))
def mulD : PyData → PyData → (R → Prop) → Prop := fun d e Q => ∃ k : Int, e = .int k ∧ -(2 ^ 63) ≤ k ∧ k < 2 ^ 63 ∧ match d with
 | .int i => CMul i k ∧ Q (.o (.int (i * k)))
 | .str x => x.length * k.toNat ≤ sizeLine ∧ Q (.o (.str (tx (List.replicate k.toNat x.cps.toList).flatten)))
 | .list ds => ds.length * k.toNat ≤ sizeLine ∧ Q (.n (List.replicate k.toNat ds).flatten)
 | .tuple ds => ds.length * k.toNat ≤ sizeLine ∧ Q (.o (.tuple (List.replicate k.toNat ds).flatten))
 | _ => False
section
variable {K : PySem.W.Frag} {O : Ob} {F : Addr → Prop} {H : Hp}
theorem isAll_rep {xs : List V} {ds : List PyData} (h : IsAll K F H xs ds) : ∀ k : Nat, IsAll K F H (List.replicate k xs).flatten (List.replicate k ds).flatten
 | 0 => .nil
 | k + 1 => by
   rw [List.replicate_succ, List.replicate_succ, List.flatten_cons, List.flatten_cons]
   exact h.append (isAll_rep h k)
theorem opd_mulU : OpD K O (rMulU K) mulD := fun H x y d e Q Qd ok p ix iy ⟨k, he, h1, h2, q⟩ kk => by
 subst he
 cases iy
 cases ix with
 | int i => exact .inl ⟨_, _, rfl, rfl, q.1, kk _ H (.o _) (.refl _ _) (Is.int _) q.2⟩
 | str x => exact .inr (.inl ⟨_, _, rfl, rfl, h1, h2, q.1, kk _ H (.o _) (.refl _ _) (Is.str _) q.2⟩)
 | list f1 h3 s1 =>
   refine .inr (.inr (.inl ⟨_, _, _, rfl, rfl, h3, h1, h2, by rw [s1.length]; exact q.1, fun p' hp => ?_⟩))
   obtain ⟨a1, a2⟩ := out_list ok hp (isAll_rep s1 k.toNat)
   exact kk _ _ _ a1 a2 q.2
 | tuple h3 s1 =>
   refine .inr (.inr (.inr ⟨_, _, _, rfl, rfl, h3, h1, h2, by rw [s1.length]; exact q.1, fun hc => ?_, fun hc p' hp => ?_⟩))
   · rcases hc with e | e
     · subst e
       cases s1
       have e2 : (List.replicate k.toNat ([] : List PyData)).flatten = [] := by simp
       have q2 := q.2
       rw [e2] at q2
       exact kk _ H (.o _) (.refl _ _) (Is.tuple h3 .nil) q2
     · subst e
       have q2 := q.2
       have e2 : ∀ ds : List PyData, (List.replicate (1 : Int).toNat ds).flatten = ds := fun ds => by simp
       rw [e2] at q2
       exact kk _ H (.o _) (.refl _ _) (Is.tuple h3 s1) q2
   · obtain ⟨a1, a2⟩ := out_tup ok hp (isAll_rep s1 k.toNat)
     exact kk _ _ _ a1 a2 q.2
 | _ => exact q.elim
end
theorem e_mulU {ι κ : Type} {P : Program} {w : World} {K : PySem.W.Frag} {mg : Str → Option Value} {base : Heap} {k : Nat} {X : ι → Cx} {O : κ → Ob} {a b : Expr} {fa fb : DE} {pos : Pos} (C : Ctx3 P w K mg base k X) (ha : E3 K X O a fa) (hb : E3 K X O b fb) : E3 K X O (.BinOp a .Mult b pos) (opDE mulD fa fb) := e_op (fun i => by have h := op_mulU (X := X i); rw [C.hK] at h; exact h) (fun _ => opd_mulU) ha hb
end L3
namespace L3
open PySem PySem.Spec
open PyProof.Rows hiding St
open L2
def truB : PyData → Option Bool
 | .none => some false
 | .bool b => some b
 | .int i => some (i != 0)
 | .str x => if x.length ≤ sizeLine then some ((x.length : Int) != 0) else none
 | .list ds => some (!ds.isEmpty)
 | .tuple ds => some (!ds.isEmpty)
 | _ => none
def truD (f : DE) : DT := fun ρ Q => f ρ fun r => ∃ b, truB r.d = some b ∧ Q b
section
variable {K : PySem.W.Frag} {O : Ob}
theorem isAll_empty {F : Addr → Prop} {H : Hp} {xs : List V} {ds : List PyData} (h : IsAll K F H xs ds) : xs.isEmpty = ds.isEmpty := by
 cases h <;> rfl
theorem td_tru {t : TE} {f : DE} (h : ED K O t f) : TD K O (fun σ H Q => t σ H fun x H' => ∃ k, TruV K x H' k ∧ Q k H') (truD f) := fun σ H ρ Q Qd S hf k => by
 refine h σ H ρ _ _ S hf fun v H1 r s1 o1 ⟨b, e, q⟩ => ?_
 have iv := o1.is S.ok S.p
 refine ⟨b, ?_, k b H1 s1 q⟩
 generalize r.d = d at iv e
 cases iv with
 | none => cases e; rfl
 | bool b => cases e; rfl
 | int i => cases e; rfl
 | str x =>
   have e : (if x.length ≤ sizeLine then some ((x.length : Int) != 0) else none) = some b := e
   by_cases hl : x.length ≤ sizeLine
   · rw [if_pos hl] at e
     cases e
     exact ⟨hl, rfl⟩
   · rw [if_neg hl] at e
     cases e
 | list f1 h1 s1 => cases e; exact .inl ⟨_, .of h1, by rw [isAll_empty s1]⟩
 | tuple h1 s1 => cases e; exact .inr (.inl ⟨_, h1, by rw [isAll_empty s1]⟩)
theorem isAll_dropLast {F : Addr → Prop} {H : Hp} : ∀ {xs : List V} {ds : List PyData}, IsAll K F H xs ds → IsAll K F H xs.dropLast ds.dropLast
 | _, _, .nil => .nil
 | _, _, .cons h .nil => .nil
 | _, _, .cons h (.cons h2 h3) => .cons h (isAll_dropLast (.cons h2 h3))
end
section
variable {ι κ : Type} {P : Program} {w : World} {K : PySem.W.Frag} {mg : Str → Option Value} {base : Heap} {k : Nat} {X : ι → Cx} {O : κ → Ob} {a b : Expr} {fa : DE} {pos p : Pos} {ga : DA}
theorem t_tru (C : Ctx3 P w K mg base k X) (ha : E3 K X O a fa) (he : ∀ i whole, isTrue a (X i).env whole = (do let v ← whole; standAt a.pos; holding [v] (truthy v)) := by intro _ _; rfl) : T3 K X O a (truD fa) := let ⟨_, q, d⟩ := ha;
 ⟨_, fun i => by have h := pt_truth (X := X i) (q i) (he i); rw [C.hK] at h; exact h, fun j => td_tru (d j)⟩
theorem mtr_pop {X : Cx} : MtR X "list.pop" rPop := fun pins s σ H x xs v us Q I rx rv h => mt_pop pins s σ H x xs v us Q I rx rv h
end
section
variable {K : PySem.W.Frag} {O : Ob}
def extS (i : Nat) (f : DE) : DS := fun Dd ρ => ∃ ds, ρ[i]? = some (some (.own ds)) ∧ f ρ fun r => ∃ es, r.d = .list es ∧ flats es = true ∧ ds.length + es.length ≤ sizeLine ∧ Dd.nx (ρ.set i (some (.own (ds ++ es))))
theorem sd_extend {i : Nat} {t : TE} {f : DE} (h : ED K O t f) : SD K O (tDrop (tBM K "list" rExtend (tVar i) (tCons t tNil))) (extS i f) := fun H₀ A σ H ρ D Dd r q P => by
 obtain ⟨ds, e, q⟩ := q
 obtain ⟨v, hv, a, xs, rfl, ha, hl, hs⟩ := r.at_ i _ e
 refine ⟨_, hv, ?_⟩
 refine ⟨.inl ⟨rfl, xs, .of hl⟩, ?_⟩
 refine h σ H ρ _ _ r.seen q fun w H1 x s1 o1 ⟨es, ed, fl, hz, q1⟩ => ?_
 have r1 := r.stp s1
 obtain ⟨v1, hv1, a1, xs1, e1, ha1, hl1, hs1⟩ := r1.at_ i _ e
 rw [hv] at hv1
 cases hv1
 cases e1
 have iw := o1.is r.ok r.p
 rw [ed] at iw
 cases iw with
 | list f1 h1 s2 =>
   refine ⟨a, _, xs1, _, rfl, rfl, hl1, h1, by rw [hs1.length, s2.length]; exact hz, ?_⟩
   exact P.nx A σ _ _ (r1.change e hv ha (hs1.append (IsAll.flats (TupStay.refl H1) s2 fl))) ((Frm.stp s1).trans (.change ha)) q1
end
section
variable {ι κ : Type} {P : Program} {w : World} {K : PySem.W.Frag} {mg : Str → Option Value} {base : Heap} {k : Nat} {X : ι → Cx} {O : κ → Ob} {a b : Expr} {fa fb : DE} {pos p : Pos} {ga : DA}
theorem bt_max : bootBuiltins "max" = some (.builtin "max") := by decide +kernel
theorem mtr_extend {X : Cx} : MtR X "list.extend" rExtend := fun pins s σ H x xs v us Q I rx rv h => mt_extend pins s σ H x xs v us Q I rx rv h
theorem s_ext (n : Nat) {x : Str} {px apos cpos : Pos} (C : Ctx3 P w K mg base k X) (hb : E3 K X O b fb) (hN : ∀ i, (X i).N[n]? = some x := by intro i; rfl) (hv : ∀ i, Vis (X i).env.scope x := by intro i; first | exact Or.inl rfl | exact Or.inr (Or.inl rfl) | exact Or.inr (Or.inr rfl)) (hd : (x == ("__debug__" : Str)) = false := by decide) (hcd : (x == ("__classdict__" : Str)) = false := by decide)
   (hbase : ∀ i, attributeBase (.Name x px) "extend" (X i).env (eval (.Name x px) (X i).env) = eval (.Name x px) (X i).env := by intro i; rfl)
   (hfew : ∀ i, ((backTo cpos (starEach [b] (X i).env)).all (fun x => !x.1) && (backToKw cpos (keywordEach [] (X i).env)).all (fun x => x.1.isSome) && decide (([b] : List Expr).length + ([] : List Keyword).length + (if ([] : List Keyword).isEmpty then 0 else 1) < 30)) = true := by intro i; rfl)
   (hline : (apos.endLine == cpos.line) = true := by rfl) (hs : ∀ i, starEach [b] (X i).env = [(false, eval b (X i).env)] := by intro i; rfl) (hsw : ∀ i, swapsWith (.Call (.Attribute (.Name x px) "extend" apos) [b] [] cpos) none pos.line (X i).env = pure false := by intro i; rfl) :
   S3 K X O (.Expr (.Call (.Attribute (.Name x px) "extend" apos) [b] [] cpos) pos) (extS n fb) := let ⟨_, p2, d2⟩ := hb;
 ⟨tDrop (tBM K "list" rExtend (tVar n) (tCons _ tNil)), fun i => by
   have h := pe_bm (apos := apos) (cpos := cpos) PySem.F.plainAttrs_list PySem.F.slot_list_extend PySem.F.type_list_extend (mtr_extend (X := X i)) (pe_var (pos := px) (hN i) (hv i) hd hcd) (pa_cons (p2 i) pa_nil (hs i)) (hbase i) (hfew i) hline (hs i)
   rw [C.hK] at h
   exact ps_expr h (hsw i), fun j => sd_extend (d2 j)⟩
end
end L3
namespace L3
open PySem PySem.Spec
open PyProof.Rows hiding St
open L2
namespace RV
theorem nolen_rev : typeLookup (.type "list_reverseiterator") "__len__" = pure none := by rw [typeLookup_type, builtinLookup_eq_fast]; kernel_rfl
theorem hint_rev : typeLookup (.type "list_reverseiterator") "__length_hint__" = pure (some (.builtin "list_reverseiterator.__length_hint__")) := by rw [typeLookup_type, builtinLookup_eq_fast]; kernel_rfl
theorem sub_rev_self : isSubtype (.type "list_reverseiterator") (.type "list_reverseiterator") = pure true := by rw [isSubtype_type]; kernel_rfl
theorem split_hint : splitId "list_reverseiterator.__length_hint__" = some ("list_reverseiterator", "__length_hint__") := by decide +kernel
theorem hint_no {prog : Program} {w : World} {A : Around} {E : Value → Shared → Prop} {s : Shared} {it : Addr} {Q : Bool → Shared → Prop} (t : s.TypeIs (.ref it) "list_reverseiterator") (q : Q false s) : wpAny (model prog w) A (Builtin.List.listLengthHint (.ref it)) Q E s := by
 have sp := split_hint
 unfold Builtin.List.listLengthHint
 refine wpAny_bind (wpAny_specialOf t nolen_rev (wpAny_bind (wpAny_specialOf t hint_rev ?_)))
 revert sp
 generalize z : ("list_reverseiterator.__length_hint__" : String) = nm
 intro sp
 dsimp only
 rw [sp]
 subst z
 exact wpAny_bind (wpAny_isInstance (b := true) t sub_rev_self (wpAny_pure q))
theorem list_of_rev {prog : Program} {w : World} {A : Around} {E : Value → Shared → Prop} {s : Shared} {it l : Addr} {items : Array Value} {Q : Value → Shared → Prop} (hh : A.handled = none) (hr : s.heap.IsRevIter it l ((items.size : Int) - 1)) (hl : s.heap.IsList l items) (hne : l ≠ it) (hz : items.size ≤ sizeLine)
   (q : ∀ h' t' vs c, (∀ b o, b ≠ it → s.heap.get? b = some o → h'.get? b = some o) → h'.get? s.heap.objs.size = some { cls := .type "list", dict := none, data := .seq vs c, slots := #[] } → ItemsOf (fun i v => items[items.size - 1 - i]? = some v) vs items.size → Q (.ref s.heap.objs.size) { s with heap := h', toks := t' }) :
   wpAny (model prog w) A (call (.type "list") [.ref it]) Q E s := by
 have W := (Walks.listRev (prog := prog) (w := w) (A := A.in1.in1) hh it l hne items).toS
 have new : ∀ b o, s.heap.get? b = some o → b ≠ s.heap.objs.size := fun b o e z => by
   subst z
   rw [Heap.get?] at e
   simp at e
 refine callType_codes (Q₁ := fun v s1 => v = .ref s.heap.objs.size ∧ s1 = { s with heap := s.heap.push { cls := .type "list", data := .seq #[] } }) F.called_list (F.typeCall_list_1 _) F.entry_list_init (code_list_new _ ⟨rfl, rfl⟩) ?_
 rintro _ _ ⟨rfl, rfl⟩
 refine ⟨⟨_, Heap.get?_push_size _ rfl, rfl⟩, F.args_list_init_2 _ _, ?_⟩
 obtain ⟨o, ho, hc, hd⟩ := id hr
 have nI : s.heap.objs.size ≠ it := fun z => new it _ ho z.symm
 have same : Builtin.List.listSameRef (.ref s.heap.objs.size) (.ref it) = false := by simp [Builtin.List.listSameRef, nI]
 have t1 : Value.type "list_reverseiterator" ≠ Value.type "list" := by decide
 have eS : (s.heap.push { cls := .type "list", data := .seq #[] }).get? s.heap.objs.size = some { cls := .type "list", data := .seq #[] } := Heap.get?_push_size _ rfl
 have eI := Heap.get?_push_of_some { cls := .type "list", data := .seq (#[] : Array Value) } ho
 have a1 := nolen_rev
 have a2 := hint_rev
 have a3 := sub_rev_self
 obtain ⟨hp, g, dr, tk, os⟩ := s
 have eI2 : (((hp.push { cls := .type "list", data := .seq #[] }).update hp.objs.size (Obj.mapSeq fun _ => (#[] : Array Value))).get? it) = some o := by
   rw [Heap.get?_update_other _ _ nI]
   exact eI
 have eS2 := Heap.get?_update_self (Obj.mapSeq (fun _ => (#[] : Array Value))) eS rfl
 have hr2 : ((hp.push { cls := .type "list", data := .seq #[] }).update hp.objs.size (Obj.mapSeq fun _ => (#[] : Array Value))).IsRevIter it l ((items.size : Int) - 1) := ⟨o, eI2, hc, hd⟩
 have hT : Shared.TypeIs ⟨((hp.push { cls := .type "list", data := .seq #[] }).update hp.objs.size (Obj.mapSeq fun _ => (#[] : Array Value))), g, dr, tk, os⟩ (.ref it) "list_reverseiterator" := ⟨o, eI2, hc⟩
 unfold Builtin.«list.__init__»
 wp_walk using wpAny_pyIter_revIter hr2, wpAny_typeOf hT, hint_no hT
 have hl2 : ((hp.push { cls := .type "list", data := .seq #[] }).update hp.objs.size (Obj.mapSeq fun _ => (#[] : Array Value))).IsList l items := by
   obtain ⟨ol, h1, h2⟩ := hl
   refine ⟨ol, ?_, h2⟩
   rw [Heap.get?_update_other _ _ (fun z => new l _ h1 z.symm)]
   exact Heap.get?_push_of_some _ h1
 have hS : hp.objs.size ∉ [it, l] := fun z => by
   obtain ⟨ol, h1, _⟩ := hl
   rcases List.mem_cons.mp z with z | z
   · exact nI z
   · exact new l _ h1 (List.mem_singleton.mp z).symm
 refine ⟨plainId_quiet F.plain_extend_loop _, codeAny_extend_loopS W hz _ hS _ items.size 0 _ _ _ rfl (Nat.zero_le _) ⟨Nat.zero_le _, by simpa using hr2, hl2⟩ eS2 (ItemsOf.nil _) fun s' vs c m e is => ⟨rfl, ?_⟩⟩
 obtain ⟨hp', g', dr', tk', os'⟩ := s'
 obtain ⟨m1, m2, m3, m4, m5⟩ := m
 have m2 : g' = g := m2
 have m3 : dr' = dr := m3
 have m4 : os' = os := m4
 subst m2 m3 m4
 refine q hp' tk' vs c (fun b ob hb eb => m1 b ob (fun z => ?_) ?_) e is
 · rcases List.mem_cons.mp z with z | z
   · exact new b _ eb z
   · exact hb (List.mem_singleton.mp z)
 · show ((hp.push _).update _ _).get? b = _
   rw [Heap.get?_update_other _ _ (fun z => new b _ eb z.symm)]
   exact Heap.get?_push_of_some _ eb
theorem items_rev {its : List Value} {vs : Array Value} (h : ItemsOf (fun i v => its.toArray[its.toArray.size - 1 - i]? = some v) vs its.toArray.size) : vs = its.reverse.toArray := by
 obtain ⟨h1, h2⟩ := h
 apply Array.ext'
 apply List.ext_getElem?
 intro i
 by_cases hi : i < vs.size
 · have e : vs.toList[i]? = some vs[i] := by simp [hi]
   have e2 := h2 i vs[i] (by simp [hi])
   rw [e, ← e2]
   simp at h1 e2 ⊢
   rw [List.getElem?_reverse (by omega)]
 · rw [List.getElem?_eq_none (by simpa using hi)]
   symm
   apply List.getElem?_eq_none
   simp at h1 ⊢
   omega
end RV
def tLR (K : PySem.W.Frag) (te : TE) : TE := fun σ H Q => te σ H fun v H1 => ∃ a xs, v = .ref a ∧ SqL K H1 a xs ∧ ∀ p, H1 p = none → Q (.ref p) (upd H1 p (.lst xs.reverse))
theorem pe_listrev {X : Cx} {e : Expr} {te : TE} {p1 p2 p3 p4 : Pos} (calm : X.A.handled = none) (gl : Gl X "list") (ml : X.mg "list" = none) (gr : Gl X "reversed") (mr : X.mg "reversed" = none) (he : PE X e te)
   (s1 : starEach [.Call (.Name "reversed" p2) [e] [] p3] X.env = (false, eval (.Call (.Name "reversed" p2) [e] [] p3) X.env) :: starEach [] X.env := by rfl) (s2 : starEach [e] X.env = (false, eval e X.env) :: starEach [] X.env := by rfl) :
   PE X (.Call (.Name "list" p1) [.Call (.Name "reversed" p2) [e] [] p3] [] p4) (tLR X.K te) := by
 intro pins s σ H Q I h
 refine wpAny_Call_Name_kw (ld_blt I gl ml (u := .type "list") rfl ?_)
 refine PyProof.Rows.callWith_type1 ?_ s1
 rw [s1]
 show wpAny _ _ (spliced ((false, eval (.Call (.Name "reversed" p2) [e] [] p3) X.env) :: [])) _ _ s
 refine Calls.spliced_cons ?_
 refine wpAny_Call_Name_kw (ld_blt I gr mr (u := .type "reversed") rfl ?_)
 refine PyProof.Rows.callWith_type1 ?_ s2
 rw [s2]
 show wpAny _ _ (spliced ((false, eval e X.env) :: [])) _ _ s
 refine Calls.spliced_cons (thn (he pins s σ H _ I h) fun u s' ⟨y, H1, I1, r1, a, xs, ey, hq, q⟩ => ?_)
 subst ey
 cases r1
 refine Calls.spliced_nil ?_
 obtain ⟨its, rv, pl, hz⟩ := I1.list hq
 have hlen := rv.length
 have isl := pl.isList
 refine call_reversed_list isl ?_
 refine Calls.spliced_nil ?_
 have new : a ≠ s'.heap.objs.size := fun z => by
   obtain ⟨o, ho, _⟩ := isl
   exact Nat.lt_irrefl _ (z ▸ Heap.lt_size ho)
 have isl2 : (s'.heap.push (revObj a ((its.toArray.size : Int) - 1))).IsList a its.toArray := isl.push _
 refine RV.list_of_rev (s := { s' with heap := s'.heap.push (revObj a ((its.toArray.size : Int) - 1)) }) calm ⟨_, Heap.get?_push_size _ rfl, rfl, rfl⟩ isl2 new (by simp; omega) fun h' t' vs c kp e is => ?_
 have ez : (s'.heap.push (revObj a ((its.toArray.size : Int) - 1))).objs.size = s'.heap.objs.size + 1 := Heap.size_push ..
 have ev := RV.items_rev is
 subst ev
 have kp2 : ∀ b o, s'.heap.get? b = some o → h'.get? b = some o := fun b o eb => kp b o (fun z => Nat.lt_irrefl _ (z ▸ Heap.lt_size eb)) (Heap.get?_push_of_some _ eb)
 have fr : H1 (s'.heap.objs.size + 1) = none := I1.hok.fresh (Nat.le_succ _)
 dsimp only at e ⊢
 rw [ez] at e ⊢
 exact ⟨.ref (s'.heap.objs.size + 1), _, I1.laid (t' := t') kp2 (Nat.le_succ _) (show ObjOk X.prog X.w _ h' _ (.lst xs.reverse) from ⟨by rw [List.length_reverse]; exact hz, its.reverse, c, rv.reverse, e⟩), rfl, q _ fr⟩
end L3
namespace L3
open PySem PySem.Spec
open PyProof.Rows hiding St
open L2
abbrev kSeed : Key := .inr "seed"
abbrev kNum : Key := .inr "number"
abbrev kLeft : Key := .inr "left"
def dealKv (seed num : Int) (l : Addr) : List (Key × V) := [(kSeed, .int seed), (kNum, .int num), (kLeft, .ref l)]
def dealA (seed num : Int) (l : Addr) : HO := .dK (dealKv seed num l)
theorem val_seed (s n : Int) (l : Addr) : valV (dealKv s n l) kSeed = some (.int s) := by simp [valV, dealKv, List.find?_cons]
theorem val_num (s n : Int) (l : Addr) : valV (dealKv s n l) kNum = some (.int n) := by
 have h1 : ¬ (kSeed = kNum) := by decide +kernel
 simp [valV, dealKv, List.find?_cons, h1]
theorem val_left (s n : Int) (l : Addr) : valV (dealKv s n l) kLeft = some (.ref l) := by
 have h1 : ¬ (kSeed = kLeft) := by decide +kernel
 have h2 : ¬ (kNum = kLeft) := by decide +kernel
 simp [valV, dealKv, List.find?_cons, h1, h2]
theorem put_seed (s n s' : Int) (l : Addr) : putK (dealKv s n l) kSeed (.int s') = dealKv s' n l := by
 have h1 : ¬ (kNum = kSeed) := by decide +kernel
 have h2 : ¬ (kLeft = kSeed) := by decide +kernel
 simp [putK, dealKv, h1, h2]
theorem put_num (s n n' : Int) (l : Addr) : putK (dealKv s n l) kNum (.int n') = dealKv s n' l := by
 have h1 : ¬ (kSeed = kNum) := by decide +kernel
 have h2 : ¬ (kLeft = kNum) := by decide +kernel
 simp [putK, dealKv, h1, h2]
structure DealAt (H : Hp) (a l : Addr) (seed num : Int) (ns : List Int) : Prop where
 ne : a ≠ l
 ha : H a = some (dealA seed num l)
 hl : H l = some (.lst (ns.map V.int))
 s0 : 0 ≤ seed
 s1 : seed < 4294967296
 n0 : 0 ≤ num
 ns0 : ∀ n ∈ ns, 0 ≤ n
structure IsDeal (O : Ob) : Prop where
 ex : ∃ a l, O.v = .ref a ∧ O.M a ∧ O.M l ∧ (∀ H, O.P H → ∃ s n ns, DealAt H a l s n ns) ∧ ∀ H H' s n ns, O.P H → DealAt H' a l s n ns → (∀ b, O.M b → b ≠ a → b ≠ l → H' b = H b) → O.P H'
theorem IsDeal.plus {O : Ob} (h : IsDeal O) (D : Addr) (u : HO) (nm : ¬ O.M D) : IsDeal (O.plus D u) := by
 obtain ⟨a, l, hv, ma, ml, h1, h2⟩ := h.ex
 have da : D ≠ a := fun e => nm (e ▸ ma)
 have dl : D ≠ l := fun e => nm (e ▸ ml)
 refine ⟨a, l, hv, .inl ma, .inl ml, fun H p => h1 H p.1, fun H H' s n ns p q k => ⟨h2 H H' s n ns p.1 q fun b mb => k b (.inl mb), ?_⟩⟩
 rw [k D (.inr rfl) da dl]
 exact p.2
theorem upD {κ : Type} {O : κ → Ob} (h : ∀ j, IsDeal (O j)) : ∀ j, IsDeal (compO O j) := fun j => (h j.1.1).plus _ _ j.2
def dealOb (a l : Addr) : Ob := ⟨fun b => b = a ∨ b = l, fun H => ∃ s n ns, DealAt H a l s n ns, .ref a⟩
theorem dealOb_ok (a l : Addr) : (dealOb a l).Ok := by
 refine ⟨fun H H' e ⟨s, n, ns, p⟩ => ⟨s, n, ns, p.ne, (e a (.inl rfl)).trans p.ha, (e l (.inr rfl)).trans p.hl, p.s0, p.s1, p.n0, p.ns0⟩, fun H b o ⟨s, n, ns, p⟩ eb m => ?_, fun H b ⟨s, n, ns, p⟩ m => ?_⟩
 · rcases m with rfl | rfl
   · rw [p.ha] at eb; cases eb; exact ⟨fun _ z => (by cases z), fun _ _ z => (by cases z)⟩
   · rw [p.hl] at eb; cases eb; exact ⟨fun _ z => (by cases z), fun _ _ z => (by cases z)⟩
 · rcases m with rfl | rfl
   · exact ⟨_, p.ha⟩
   · exact ⟨_, p.hl⟩
theorem dealOb_is (a l : Addr) : IsDeal (dealOb a l) := ⟨a, l, rfl, .inl rfl, .inr rfl, fun _ p => p, fun _ _ s n ns _ q _ => ⟨s, n, ns, q⟩⟩
abbrev dAt (k : Str) : TE := tDGet (tVar 0) (tC (.str k))
def tDealW (K : PySem.W.Frag) : TS :=
 tWhile (tAnd (tTest (tOp rEq (dAt "number") (tC (.int 0)))) (tTest (tOp (rI0 fun i j => .bl (decide (j < i))) (tCB (lenR K) (tCons (dAt "left") tNil)) (tC (.int 0)))))
     (sDPut (tVar 0) (tC (.str "number")) (tBM0 K "list" rPop (dAt "left")))
theorem at_num {H : Hp} {a l : Addr} {s n : Int} {ns : List Int} {σ : St} {Q : VK} (p : DealAt H a l s n ns) (hσ : σ[0]? = some (some (.ref a))) (q : Q (.int n) H) : dAt "number" σ H Q :=
 ⟨_, hσ, a, _, rfl, .inl ⟨_, kNum, .inl p.ha, rfl, (val_num s n l).symm⟩, q⟩
theorem at_seed {H : Hp} {a l : Addr} {s n : Int} {ns : List Int} {σ : St} {Q : VK} (p : DealAt H a l s n ns) (hσ : σ[0]? = some (some (.ref a))) (q : Q (.int s) H) : dAt "seed" σ H Q :=
 ⟨_, hσ, a, _, rfl, .inl ⟨_, kSeed, .inl p.ha, rfl, (val_seed s n l).symm⟩, q⟩
theorem at_left {H : Hp} {a l : Addr} {s n : Int} {ns : List Int} {σ : St} {Q : VK} (p : DealAt H a l s n ns) (hσ : σ[0]? = some (some (.ref a))) (q : Q (.ref l) H) : dAt "left" σ H Q :=
 ⟨_, hσ, a, _, rfl, .inl ⟨_, kLeft, .inl p.ha, rfl, (val_left s n l).symm⟩, q⟩
theorem len_kv (s n : Int) (l : Addr) : (dealKv s n l).length < sizeLine := by rw [sizeLine_eq]; show 3 < 16777216; decide
theorem DealAt.setN {H : Hp} {a l : Addr} {s n : Int} {ns : List Int} (p : DealAt H a l s n ns) {n' : Int} (h : 0 ≤ n') : DealAt (upd H a (dealA s n' l)) a l s n' ns :=
 ⟨p.ne, upd_same, by rw [upd_ne (Ne.symm p.ne)]; exact p.hl, p.s0, p.s1, h, p.ns0⟩
theorem DealAt.setS {H : Hp} {a l : Addr} {s n : Int} {ns : List Int} (p : DealAt H a l s n ns) {s' : Int} (h : 0 ≤ s') (h2 : s' < 4294967296) : DealAt (upd H a (dealA s' n l)) a l s' n ns :=
 ⟨p.ne, upd_same, by rw [upd_ne (Ne.symm p.ne)]; exact p.hl, h, h2, p.n0, p.ns0⟩
theorem put_n {H : Hp} {a l : Addr} {s n : Int} {ns : List Int} (p : DealAt H a l s n ns) (n' : Int) : DPut H a (.str "number") (.int n') (upd H a (dealA s n' l)) :=
 .inl ⟨_, kNum, p.ha, rfl, len_kv s n l, by rw [put_num]; rfl⟩
theorem put_s {H : Hp} {a l : Addr} {s n : Int} {ns : List Int} (p : DealAt H a l s n ns) (s' : Int) : DPut H a (.str "seed") (.int s') (upd H a (dealA s' n l)) :=
 .inl ⟨_, kSeed, p.ha, rfl, len_kv s n l, by rw [put_seed]; rfl⟩
theorem deal_stp {O : Ob} {H H' : Hp} {a l : Addr} {s n s' n' : Int} {ns ns' : List Int} (ma : O.M a) (ml : O.M l) (h2 : ∀ H H' s n ns, O.P H → DealAt H' a l s n ns → (∀ b, O.M b → b ≠ a → b ≠ l → H' b = H b) → O.P H') (p : DealAt H a l s n ns) (p' : DealAt H' a l s' n' ns') (st : PotStp a l H H') : Stp O H H' := by
 refine ⟨fun b o e nm => ?_, fun pp => h2 H H' _ _ _ pp p' fun b _ h3 h4 => st.oth b h3 h4, fun b u hu e => ?_⟩
 · rw [st.oth b (fun z => nm (z ▸ ma)) fun z => nm (z ▸ ml)]; exact e
 · rw [st.oth b (fun z => ?_) fun z => ?_]
   · exact e
   · rw [z, p.ha] at e; cases e; obtain ⟨xs, e1 | ⟨o, e1⟩⟩ := hu <;> cases e1
   · rw [z, p.hl] at e; cases e; obtain ⟨xs, e1 | ⟨o, e1⟩⟩ := hu <;> cases e1
end L3
namespace L3
open PySem PySem.Spec
open PyProof.Rows hiding St
open L2
theorem upd2 (H : Hp) (a : Addr) (x y : HO) : upd (upd H a x) a y = upd H a y := by
 funext b
 by_cases e : b = a
 · subst e; rw [upd_same, upd_same]
 · rw [upd_ne e, upd_ne e, upd_ne e]
theorem tcomp_ints {K : PySem.W.Frag} {c : Addr} {ns : List Int} {σ : St} {H : Hp} {tf : TT} {te : TE} {G : Addr → Hp → Prop} (p : Int → Bool) (f : Int → Int) (hS : SqL K H c (ns.map V.int)) (hz : ns.length ≤ 63)
   (ht : ∀ n H' R, R (p n) H' → tf (some (.int n) :: σ) H' R) (he : ∀ n H' R, R (V.int (f n)) H' → te (some (.int n) :: σ) H' R)
   (q : ∀ D, H D = none → G D (upd H D (.lst (((ns.filter p).map f).map V.int)))) :
   ∀ D, H D = none → ∃ W : Nat → Nat → List V → Hp → Prop, (∃ m, W 0 m [] (upd H D (.lst []))) ∧ ∀ i m ys H', W i m ys H' → H' D = some (.lst ys) ∧ (((Itl K c).stop i H' ∧ G D H') ∨ ((Itl K c).go i H' ∧ ∀ x H'', (Itl K c).yld i H' x H'' → gName 0 x (List.replicate 1 none ++ σ) H'' fun σ2 H2 => tf σ2 H2 fun b H3 =>
     if b = true then te σ2 H3 fun y H4 => H4 D = some (.lst ys) ∧ ys.length < sizeLine ∧ ∃ m', m' < m ∧ W (i + 1) m' (ys ++ [y]) (upd H4 D (.lst (ys ++ [y]))) else ∃ m', m' < m ∧ W (i + 1) m' ys H3)) := by
 intro D hD
 have sz := sizeLine_eq
 refine ⟨fun i m ys H' => m = ns.length - i ∧ i ≤ ns.length ∧ ys = (((ns.take i).filter p).map f).map V.int ∧ H' = upd H D (.lst ys), ⟨_, rfl, Nat.zero_le _, rfl, rfl⟩, ?_⟩
 rintro i m ys H' ⟨rfl, hi, rfl, rfl⟩
 refine ⟨upd_same, ?_⟩
 have hS' := (L3.same_new hD (.lst ((((ns.take i).filter p).map f).map V.int))).seq hS
 by_cases lt : i < ns.length
 · right
   refine ⟨⟨_, .int ns[i], hS', by rw [List.getElem?_map, List.getElem?_eq_getElem lt]; rfl⟩, fun x H'' ⟨e, y⟩ => ?_⟩
   subst e
   have ex := y _ hS'
   rw [List.getElem?_map, List.getElem?_eq_getElem lt] at ex
   cases ex
   show tf (some (.int ns[i]) :: σ) _ _
   have et : (ns.take (i + 1)).filter p = (ns.take i).filter p ++ (if p ns[i] = true then [ns[i]] else []) := by
     rw [List.take_succ_eq_append_getElem lt, List.filter_append, List.filter_cons]
     rfl
   refine ht _ _ _ ?_
   by_cases cc : p ns[i] = true
   · rw [if_pos cc] at et ⊢
     have hlen : ((ns.take i).filter p).length ≤ ns.length := Nat.le_trans (List.length_filter_le _ _) (by rw [List.length_take]; omega)
     refine he _ _ _ ⟨upd_same, by rw [List.length_map, List.length_map]; omega, ns.length - (i + 1), by omega, rfl, lt, ?_, upd2 _ _ _ _⟩
     rw [et, List.map_append, List.map_append]
     rfl
   · rw [if_neg cc] at et ⊢
     rw [List.append_nil] at et
     exact ⟨ns.length - (i + 1), by omega, rfl, lt, by rw [et], rfl⟩
 · left
   have e : i = ns.length := by omega
   subst e
   refine ⟨⟨_, hS', by rw [List.length_map]; exact Nat.le_refl _⟩, ?_⟩
   rw [List.take_length]
   exact q D hD
abbrev rMax2 : List V → Hp → VK → Prop := fun xs H Q => ∃ i j, xs = [.int i, .int j] ∧ Q (.int (if j > i then j else i)) H
def spDeal (K : PySem.W.Frag) : Sp := fun vs H Q _ => ∃ (a : Addr) (ns : List Int), vs = [.ref a, .int 0] ∧ SqL K H a (ns.map V.int) ∧ ns.length ≤ 63 ∧ ∀ p l s left H', H p = none → H l = none → Same H H' → DealAt H' p l s 0 left → Q (.ref p) H'
end L3
namespace L3
open PySem PySem.Spec
open PyProof.Rows hiding St
open L2
section
variable {K : PySem.W.Frag} {O : Ob} {X : Cx}
def chD (F F' : PyData → PyData → (R → Prop) → Prop) (fa fb fc : DE) : DE := fun ρ Q => fa ρ fun a => fb ρ fun b => F a.d b.d fun z => ∃ k, z.d = .bool k ∧ (if k = true then fc ρ fun c => F' b.d c.d Q else Q (.o (.bool false)))
theorem ed_chain {r r' : R2} {ta tb tc : TE} {F F' : PyData → PyData → (R → Prop) → Prop} {fa fb fc : DE} (hr : OpD K O r F) (hr' : OpD K O r' F') (ha : ED K O ta fa) (hb : ED K O tb fb) (hc : ED K O tc fc) : ED K O (tChain r r' ta tb tc) (chD F F' fa fb fc) := fun σ H ρ Q Qd S h k => by
 refine ha σ H ρ _ _ S h fun v H1 a s1 o1 h1 => ?_
 refine hb σ H1 ρ _ _ (S.stp s1) h1 fun w H2 b s2 o2 h2 => ?_
 have p1 := s1.p S.p
 have p2 := s2.p p1
 have ib := o2.is S.ok p1
 refine hr H2 v w a.d b.d _ _ S.ok p2 (Is.stp s2 (fun _ f => f) (fun _ f => f) (o1.is S.ok S.p)) ib h2 fun z H3 c s3 o3 ⟨kk, e, h3⟩ => ?_
 have iz := o3.is S.ok p2
 rw [e] at iz
 cases iz
 refine ⟨kk, rfl, ?_⟩
 cases kk with
 | true =>
   refine hc σ H3 ρ _ _ (((S.stp s1).stp s2).stp s3) h3 fun x H4 d s4 o4 h4 => ?_
   have p3 := s3.p p2
   refine hr' H4 w x b.d d.d _ _ S.ok (s4.p p3) (Is.stp s4 (fun _ f => f) (fun _ f => f) (Is.stp s3 (fun _ f => f) (fun _ f => f) ib)) (o4.is S.ok p3) h4 fun z H5 r5 s5 o5 h5 => ?_
   exact k z H5 r5 ((((s1.trans s2).trans s3).trans s4).trans s5) (Out.ahead S.ok S.p (((s1.trans s2).trans s3).trans s4) o5) h5
 | false => exact k _ H3 (.o (.bool false)) ((s1.trans s2).trans s3) (Is.bool false) h3
def rLeS : R2 := fun x y H Q => ∃ i j : Str, x = .str i ∧ y = .str j ∧ Q (.bl (!decide (j.cps.toList < i.cps.toList))) H
theorem op_le_str : OpR X (compareOp .LtE) rLeS := by
 intro pins s σ H x y v u Q I rx ry h
 obtain ⟨i, j, rfl, rfl, q⟩ := h
 obtain ⟨t, rfl⟩ := rx
 obtain ⟨t', rfl⟩ := ry
 exact PySem.P.le_str ⟨.bl _, H, I, rfl, q⟩
def leSF : PyData → PyData → Option R := fun d e => match d, e with
 | .str i, .str j => some (.o (.bool (!decide (j.cps.toList < i.cps.toList))))
 | _, _ => none
theorem opd_leS : OpD K O rLeS (fn2 leSF) := fun H x y d e Q Qd ok p ix iy ⟨r, hr, q⟩ k => by
 unfold leSF at hr
 split at hr
 · cases hr
   cases ix
   cases iy
   exact ⟨_, _, rfl, rfl, k _ H (.o _) (.refl _ _) (Is.bool _) q⟩
 · cases hr
end
section
variable {ι κ : Type} {P : Program} {w : World} {K : PySem.W.Frag} {mg : Str → Option Value} {base : Heap} {k : Nat} {X : ι → Cx} {O : κ → Ob} {a b c : Expr} {fa fb fc : DE} {pos p : Pos} {st : Stmt} {es : List Expr} {ga : DA}
theorem e_chain {op op' : CmpOp} {r r' : R2} {F F' : PyData → PyData → (R → Prop) → Prop} (ho : ∀ i, OpR (X i) (compareOp op) r) (ho' : ∀ i, OpR (X i) (compareOp op') r') (hd : ∀ j, OpD K (O j) r F) (hd' : ∀ j, OpD K (O j) r' F') (ha : E3 K X O a fa) (hb : E3 K X O b fb) (hc : E3 K X O c fc)
   (hm : lastMarks [op, op'] [b, c] = false := by with_unfolding_all rfl) : E3 K X O (.Compare a [op, op'] [b, c] pos) (chD F F' fa fb fc) :=
 let ⟨_, p1, d1⟩ := ha; let ⟨_, p2, d2⟩ := hb; let ⟨_, p3, d3⟩ := hc; ⟨_, fun i => pe_chain (ho i) (ho' i) (p1 i) (p2 i) (p3 i) hm, fun j => ed_chain (hd j) (hd' j) (d1 j) (d2 j) (d3 j)⟩
theorem e_chS (ha : E3 K X O a fa) (hb : E3 K X O b fb) (hc : E3 K X O c fc) (hm : lastMarks [.LtE, .LtE] [b, c] = false := by with_unfolding_all rfl) : E3 K X O (.Compare a [.LtE, .LtE] [b, c] pos) (chD (fn2 leSF) (fn2 leSF) fa fb fc) :=
 e_chain (fun i => op_le_str) (fun i => op_le_str) (fun _ => opd_leS) (fun _ => opd_leS) ha hb hc hm
end
end L3
namespace L3
open PySem PySem.Spec
open PyProof.Rows hiding St
open L2
theorem mk_law5 {P : Program} {w : World} {K : PySem.W.Frag} {mg : Str → Option Value} {base : Heap} {k : Nat} {st st0 : Stmt} {rest : List Stmt} {N : List Str} {f₁ : Addr} {fd₁ : FuncData} (Fu : Fun K "law" "law" st f₁ fd₁) (S : FnScope ("_law_script" :: "_law_deal_here" :: N) ["_law_script"] (defScope st))
   (hs : defBody st = st0 :: rest)
   (first : ∀ (f : Addr) (cdv : Value) (A : Around) (outer : List Env) (s : Shared) (H : Hp) (E : XK), Ctx3 P w K mg base k (bodyX P w K mg base ("_law_script" :: "_law_deal_here" :: N) "law" (defScope st) f cdv A outer s H E) →
     PS (bodyX P w K mg base ("_law_script" :: "_law_deal_here" :: N) "law" (defScope st) f cdv A outer s H E ()) st0 (tAsg (tCall (spDeal K) [] E0 (tCons (tVar 0) (tCons (tC (.int 0)) tNil))) (gName 1)))
   (body : ∀ (f : Addr) (cdv : Value) (A : Around) (outer : List Env) (s : Shared) (H : Hp) (E : XK), Ctx3 P w K mg base k (bodyX P w K mg base ("_law_script" :: "_law_deal_here" :: N) "law" (defScope st) f cdv A outer s H E) →
     ∃ g, Ss3 K (bodyX P w K mg base ("_law_script" :: "_law_deal_here" :: N) "law" (defScope st) f cdv A outer s H E) (fun j : Addr × Addr => dealOb j.1 j.2) rest g ∧ g { nx := fun _ => False, rt := fun r => r = .o (.bool true) } (none :: some .ob :: List.replicate N.length none)) :
   FnOk P w K mg base CX0 (k + 1) f₁ fd₁ ["_law_script"] (spLaw K) := by
 refine Fu.ok S (fun vs H Q E h => by obtain ⟨a, ns, rfl, _⟩ := h; rfl) (fun cdv A outer s H vs Q E hr h => ?_)
 obtain ⟨a, ns, rfl, hS, hl, q⟩ := h
 have C := ctx_body (P := P) (w := w) (K := K) (mg := mg) (base := base) (N := "_law_script" :: "_law_deal_here" :: N) (x := "law") (sc := defScope st) (f := f₁) (cdv := cdv) (A := A) (outer := outer) (s := s) (H := H) (E := E) hr
 obtain ⟨g, ⟨t, h1, h2⟩, h3⟩ := body f₁ cdv A outer s H E C
 refine ⟨tSeq (tAsg (tCall (spDeal K) [] E0 (tCons (tVar 0) (tCons (tC (.int 0)) tNil))) (gName 1)) t, ?_, ?_⟩
 · rw [hs]
   exact pss_cons (first f₁ cdv A outer s H E C) (h1 ())
 · refine ⟨_, rfl, a, ns, rfl, hS, hl, fun p l s left H' hp hln sm pa => ?_⟩
   refine h2 (p, l) H' (fun _ _ => False) _ H' _ _ _ ⟨dealOb_ok p l, ⟨s, 0, left, pa⟩, ⟨s, 0, left, pa⟩, .refl _ _, fun _ _ _ z => z.elim, fun _ _ z => z.elim, fun i r e => ?_, ?_⟩ h3 ⟨fun _ _ _ _ _ _ z => z.elim, fun _ _ _ _ _ _ z => z.elim, fun _ _ _ _ _ _ z => z.elim, fun H' v r _ o e => ?_⟩
   · match i with
     | 0 => cases e
     | 1 => cases e; exact ⟨_, rfl, rfl⟩
     | i + 2 =>
       rw [List.getElem?_cons_succ, List.getElem?_cons_succ, List.getElem?_replicate] at e
       split at e <;> cases e
   · rw [List.length_set]
     simp [L2.start]
   · subst e
     cases o
     exact q H'
end L3
namespace L3
open PySem PySem.Spec
open PyProof.Rows hiding St
open L2
def joinL (c : Nat) : List (List Nat) → List Nat
 | [] => []
 | [x] => x
 | x :: r => x ++ c :: joinL c r
theorem joinL_cons {c : Nat} {x : List Nat} {r : List (List Nat)} (h : r ≠ []) : joinL c (x :: r) = x ++ c :: joinL c r := by
 cases r with
 | nil => exact absurd rfl h
 | cons y r => rfl
theorem str_ext {x y : Str} (h : x.cps.toList = y.cps.toList) : x = y := by
 obtain ⟨⟨a⟩⟩ := x
 obtain ⟨⟨b⟩⟩ := y
 have h : a = b := h
 rw [h]
end L3
namespace L3
open PySem PySem.Spec
open PyProof.Rows hiding St
open L2
structure DC where
 (cb cc ce m2 m3 m4 : Int)
structure DC.Ok (c : DC) : Prop where
 (cc : -(2 ^ 64) < c.cc ∧ c.cc < 2 ^ 64) 
 (m2 : 0 < c.m2 ∧ c.m2 < 4294967296)
 (m3 : 0 < c.m3 ∧ c.m3 < 4294967296)
 (m4 : 0 < c.m4 ∧ c.m4 < 4294967296)
def tDealRG (K : PySem.W.Frag) (c : DC) : TS :=
 tSeq (tAsg (dAt "number") (gName 2))
 (tSeq (tIfS (tTest (tOp (rI0 fun i j => .bl (decide (j < i))) (tVar 2) (tC (.int 0))))
     (tSeq (sDPut (tVar 0) (tC (.str "number")) (tOp (rI CDiv fun i j => .int (i / j)) (tVar 2) (tVar 1))) (tRet (tOp (rI (fun _ j => 0 < j) fun i j => .int (i % j)) (tVar 2) (tVar 1)))) tNext)
 (tSeq (tAsg (tOp (rI (fun _ j => 0 < j) fun i j => .int (i % j)) (tOp (rI0 fun i j => .int (i + j)) (tOp (rI CMul fun i j => .int (i * j)) (dAt "seed") (tC (.int 48271))) (tC (.int c.cb))) (tC (.int 2147483647))) (gName 3))
 (tSeq (sDPut (tVar 0) (tC (.str "seed")) (tOp (rI (fun _ j => 0 < j) fun i j => .int (i % j)) (tOp (rI0 fun i j => .int (i + j)) (tOp (rI CMul fun i j => .int (i * j)) (tVar 3) (tC (.int c.cc))) (tC (.int c.ce))) (tC (.int c.m2))))
 (tSeq (tAsg (tOp (rI (fun _ j => 0 < j) fun i j => .int (i % j)) (tOp (rI CMul fun i j => .int (i * j)) (dAt "seed") (dAt "seed")) (tC (.int c.m3))) (gName 4))
 (tRet (tOp (rI (fun _ j => 0 < j) fun i j => .int (i % j)) (tOp (rI0 fun i j => .int (i + j)) (tOp (rI CMul fun i j => .int (i * j)) (tOp (rI (fun _ j => 0 < j) fun i j => .int (i % j)) (tOp (rI CMul fun i j => .int (i * j)) (tVar 3) (tVar 3)) (tC (.int c.m4))) (tC (.int c.m3))) (tVar 4)) (tVar 1)))))))
def tDealDG (K : PySem.W.Frag) (c : DC) : TS := tSeq (tDealW K) (tDealRG K c)
theorem dealRG_ok {K : PySem.W.Frag} {c : DC} (hc : c.Ok) {H : Hp} {a l : Addr} {s n : Int} {ns : List Int} {m : Int} {D : Ends} (p : DealAt H a l s n ns) (m0 : 0 < m) (m1 : m < 1073741824)
   (q : ∀ k H' s' n' ns', 0 ≤ k → k < m → DealAt H' a l s' n' ns' → PotStp a l H H' → D.rt (.int k) H') : tDealRG K c D [some (.ref a), some (.int m), none, none, none] H := by
 refine at_num p rfl ?_
 refine ⟨_, rfl, n, 0, rfl, rfl, _, rfl, ?_⟩
 refine ite2 (fun _ => ?_) (fun _ => ?_)
 · refine ⟨_, rfl, _, rfl, n, m, rfl, rfl, ⟨m0, m1⟩, ?_⟩
   refine ⟨_, rfl, a, _, rfl, put_n p _, ?_⟩
   exact ⟨_, rfl, _, rfl, n, m, rfl, rfl, m0, q _ _ s _ ns (Int.emod_nonneg _ (by omega)) (Int.emod_lt_of_pos _ m0) (p.setN (Int.ediv_nonneg p.n0 (by omega))) (.upA _)⟩
 · have s0 := p.s0
   have s1 := p.s1
   refine at_seed p rfl ?_
   refine ⟨s, 48271, rfl, rfl, .inl ⟨by omega, by omega⟩, ?_⟩
   refine ⟨_, _, rfl, rfl, _, _, rfl, rfl, (show (0 : Int) < 2147483647 by decide), ?_⟩
   dsimp only
   have e0 : 0 ≤ (s * 48271 + c.cb) % 2147483647 := Int.emod_nonneg _ (by decide)
   have e1 : (s * 48271 + c.cb) % 2147483647 < 2147483647 := Int.emod_lt_of_pos _ (by decide)
   generalize (s * 48271 + c.cb) % 2147483647 = one at e0 e1
   have hm2 := hc.m2
   have hm3 := hc.m3
   have hm4 := hc.m4
   refine ⟨_, rfl, one, c.cc, rfl, rfl, .inl ⟨by omega, by omega⟩, ?_⟩
   refine ⟨_, _, rfl, rfl, _, _, rfl, rfl, hm2.1, ?_⟩
   dsimp only
   have f0 : 0 ≤ (one * c.cc + c.ce) % c.m2 := Int.emod_nonneg _ (by omega)
   have f1 : (one * c.cc + c.ce) % c.m2 < c.m2 := Int.emod_lt_of_pos _ hm2.1
   generalize (one * c.cc + c.ce) % c.m2 = sd at f0 f1
   refine ⟨_, rfl, a, _, rfl, put_s p _, ?_⟩
   have p2 := p.setS (s' := sd) (by omega) (by omega)
   refine at_seed p2 rfl (at_seed p2 rfl ?_)
   refine ⟨sd, sd, rfl, rfl, .inl ⟨by omega, by omega⟩, _, _, rfl, rfl, hm3.1, ?_⟩
   have g0 : 0 ≤ one * one % c.m4 := Int.emod_nonneg _ (by omega)
   have g1 : one * one % c.m4 < c.m4 := Int.emod_lt_of_pos _ hm4.1
   refine ⟨_, rfl, _, rfl, one, one, rfl, rfl, .inl ⟨by omega, by omega⟩, ?_⟩
   refine ⟨_, _, rfl, rfl, hm4.1, _, _, rfl, rfl, .inl ⟨by omega, by omega⟩, ?_⟩
   refine ⟨_, rfl, _, _, rfl, rfl, _, rfl, _, _, rfl, rfl, m0, ?_⟩
   exact q _ _ _ _ _ (Int.emod_nonneg _ (by omega)) (Int.emod_lt_of_pos _ m0) p2 (.upA _)
theorem dealG_ok {K : PySem.W.Frag} {dc : DC} (hc : dc.Ok) {H : Hp} {a l : Addr} {s n : Int} {ns : List Int} {m : Int} {D : Ends} (p : DealAt H a l s n ns) (m0 : 0 < m) (m1 : m < 1073741824)
   (q : ∀ k H' s' n' ns', 0 ≤ k → k < m → DealAt H' a l s' n' ns' → PotStp a l H H' → D.rt (.int k) H') : tDealDG K dc D [some (.ref a), some (.int m), none, none, none] H := by
 refine ⟨fun c σ H' => σ = [some (.ref a), some (.int m), none, none, none] ∧ ∃ s n ns, c = ns.length ∧ DealAt H' a l s n ns ∧ PotStp a l H H', ⟨_, rfl, s, n, ns, rfl, p, .refl _ _ _⟩, ?_⟩
 rintro c σ H1 ⟨rfl, s, n, ns, rfl, p, st⟩
 have out : tDealRG K dc D [some (.ref a), some (.int m), none, none, none] H1 := dealRG_ok hc p m0 m1 fun k H' s' n' ns' h1 h2 h3 h4 => q k H' s' n' ns' h1 h2 h3 (st.trans h4)
 refine at_num p rfl ?_
 refine ⟨rfl, _, rfl, ?_⟩
 refine ite2 (fun c => ?_) (fun c => iteF out)
 refine at_left p rfl ?_
 refine ⟨_, _, rfl, .inl ⟨_, .of p.hl, rfl⟩, _, _, rfl, rfl, _, rfl, ?_⟩
 refine ite2 (fun c2 => ?_) (fun c2 => out)
 have c3 := of_decide_eq_true c2
 have hne : ns ≠ [] := fun e => by rw [e] at c3; simp at c3
 obtain ⟨r, x, rfl⟩ : ∃ r x, ns = r ++ [x] := ⟨ns.dropLast, ns.getLast hne, (List.dropLast_concat_getLast hne).symm⟩
 refine ⟨fun σ' H' => σ' = [some (.ref a), some (.int m), none, none, none] ∧ ∃ s n ns, ns.length < (r ++ [x]).length ∧ DealAt H' a l s n ns ∧ PotStp a l H H', fun σ' H' ⟨e, s, n, ns, hl, h1, h2⟩ => ⟨_, hl, e, s, n, ns, rfl, h1, h2⟩, ?_⟩
 refine at_left p rfl ?_
 have p1 : DealAt (upd H1 l (.lst ((r ++ [x]).map V.int).dropLast)) a l s n r := ⟨p.ne, by rw [upd_ne p.ne]; exact p.ha, by rw [upd_same, List.map_append]; show some (HO.lst (List.dropLast (_ ++ [V.int x]))) = _; rw [List.dropLast_concat], p.s0, p.s1, p.n0, fun z hz => p.ns0 z (List.mem_append_left _ hz)⟩
 refine ⟨.inl ⟨rfl, _, .of p.hl⟩, l, _, .int x, rfl, rfl, p.hl, by simp, ?_⟩
 refine ⟨_, rfl, a, _, rfl, put_n p1 x, rfl, s, x, r, by simp, p1.setN (p.ns0 x (by simp)), st.trans (PotStp.trans (.upL _) (.upA _))⟩
theorem dealDG_body {K : PySem.W.Frag} {c : DC} (hc : c.Ok) {O : Ob} {H : Hp} {ds : List PyData} {ws : List V} {Qr : R → Prop} {Q : VK} {x1 x2 x3 x4 x5 : Str} (hφ : IsDeal O) (p : O.P H) (is : IsAll K (unM O) H ws ds) (q : drawF ds Qr) (kk : ∀ r, Qr r → ∀ v H', Stp O H H' → Out K O H H' v r → Q v H') :
   tDealDG K c { nx := fun _ H' => Q .non H', rt := Q } (L2.start [x1, x2, x3, x4, x5] (O.v :: ws)) H := by
 obtain ⟨m, rfl, m0, m1, q⟩ := q
 obtain ⟨a, l, hv, ma, ml, h1, h2⟩ := hφ.ex
 obtain ⟨s, n, ns, pa⟩ := h1 H p
 obtain ⟨v, rfl, iv⟩ := isAll_one is
 cases iv
 rw [hv]
 exact dealG_ok hc pa m0 m1 fun k H' s' n' ns' k0 k1 p' st => kk _ (q k k0 k1) _ H' (deal_stp ma ml h2 pa p' st) (Is.int k)
def tMakeG (K : PySem.W.Frag) (ti ts : TE) : TS :=
 tSeq (tAsg (tComp 1 (iList K (tSl (rSlL K) (tVar 0) (tPart (tVar 1)) (tPart (tC (.int 63))))) (gName 0) tYes (tCB rMax2 (tCons (tVar 0) (tCons (tOp (rI0 fun i j => .int (i - j)) (tC (.int 0)) (tVar 0)) tNil)))) (gName 2))
 (tSeq (tAsg ti (gName 3))
 (tSeq (tFor (iList K (tVar 2)) (gName 4)
   (tAsg ts (gName 3)))
 (tRet (tDisp [(tC (.str "seed"), tVar 3), (tC (.str "number"), tC (.int 0)), (tC (.str "left"), tLR K (tComp 1 (iList K (tVar 2)) (gName 0) (tTest (tOp (rI0 fun i j => .bl (decide (j ≤ i))) (tVar 0) (tOp (rI CPow fun i j => .int (i ^ j.toNat)) (tC (.int 10)) (tC (.int 18))))) (tVar 0)))]))))
theorem makeG_body {K : PySem.W.Frag} {ti ts : TE} {s0 : Int} (hs0 : 0 ≤ s0) (hs1 : s0 < 4294967296) (hi : ∀ (v v1 : V) H Q, Q (.int s0) H → ti [some v, some (.int 0), some v1, none, none] H Q) (hst : ∀ (v v1 : V) (s n : Int) H Q, 0 ≤ s → s < 4294967296 → (∀ s', 0 ≤ s' → s' < 4294967296 → Q (.int s') H) → ts [some v, some (.int 0), some v1, some (.int s), some (.int n)] H Q) {H : Hp} {Q : VK} {a : Addr} {ns : List Int} (hS : SqL K H a (ns.map V.int)) (hl : ns.length ≤ 63)
   (q : ∀ p l s left H', H p = none → H l = none → Same H H' → DealAt H' p l s 0 left → Q (.ref p) H') : tMakeG K ti ts { nx := fun _ H' => Q .non H', rt := Q } [some (.ref a), some (.int 0), none, none, none] H := by
 have sL := sizeLine_eq
 refine ⟨_, rfl, _, rfl, _, rfl, 63, rfl, a, _, rfl, hS, fun c hc => ?_⟩
 rw [cutV_map]
 have hcl : (cutL ns (some 0) (some 63)).length ≤ 63 := by
   unfold cutL
   rw [List.length_take, List.length_drop]
   omega
 generalize cutL ns (some 0) (some 63) = cs at hcl
 refine ⟨c, rfl, ⟨_, .of upd_same⟩, ?_⟩
 have g1 : Same H (upd H c (.lst (cs.map V.int))) := L3.same_new hc _
 refine tcomp_ints (K := K) (c := c) (H := upd H c (.lst (cs.map V.int))) (σ := [some (.ref a), some (.int 0), none, none, none]) (tf := tYes) (te := tCB rMax2 (tCons (tVar 0) (tCons (tOp (rI0 fun i j => .int (i - j)) (tC (.int 0)) (tVar 0)) tNil))) (fun _ => true) (fun n => if 0 - n > n then 0 - n else n) (.of upd_same) hcl (fun n H' R r => r) (fun n H' R r => ⟨_, rfl, _, rfl, 0, n, rfl, rfl, n, 0 - n, rfl, r⟩) fun d hd => ?_
 have hcs : cs.filter (fun _ => true) = cs := List.filter_eq_self.mpr fun _ _ => rfl
 rw [hcs]
 have habs : ∀ n ∈ cs.map (fun n => if 0 - n > n then 0 - n else n), 0 ≤ n := fun n hn => by
   obtain ⟨m, _, rfl⟩ := List.mem_map.mp hn
   split <;> omega
 have hal : (cs.map (fun n => if 0 - n > n then 0 - n else n)).length ≤ 63 := by rw [List.length_map]; exact hcl
 generalize cs.map (fun n => if 0 - n > n then 0 - n else n) = es at habs hal
 have g2 : Same H (upd (upd H c (.lst (cs.map V.int))) d (.lst (es.map V.int))) := g1.trans (L3.same_new hd _)
 generalize eH : upd (upd H c (.lst (cs.map V.int))) d (.lst (es.map V.int)) = H1 at g2
 have hd1 : H1 d = some (.lst (es.map V.int)) := by rw [← eH]; exact upd_same
 refine hi _ _ _ _ ?_
 refine ⟨_, rfl, d, rfl, ⟨_, .of hd1⟩, ?_⟩
 refine for_list (xs := es.map V.int) (fun i σ H' => ∃ (s : Int) (o : Option V), σ = [some (.ref a), some (.int 0), some (.ref d), some (.int s), o] ∧ 0 ≤ s ∧ s < 4294967296 ∧ H' = H1) ?_ ?_ ?_ ?_
 · exact ⟨_, none, rfl, hs0, hs1, rfl⟩
 · rintro i σ H' hi ⟨s, o, rfl, h1, h2, rfl⟩
   exact .of hd1
 · rintro i x σ H' hx ⟨s, o, rfl, h1, h2, rfl⟩
   rw [List.getElem?_map] at hx
   obtain ⟨n, hn, rfl⟩ := Option.map_eq_some_iff.mp hx
   exact hst _ _ s n _ _ h1 h2 fun s' f0 f1 => ⟨_, _, rfl, f0, f1, rfl⟩
 · rintro σ H' ⟨s, o, rfl, h1, h2, rfl⟩
   intro p hp
   have npd : p ≠ d := fun z => by rw [z, hd1] at hp; cases hp
   refine ⟨_, rfl, ?_⟩
   have hd2 : upd H' p (.dK []) d = some (.lst (es.map V.int)) := by rw [upd_ne (Ne.symm npd)]; exact hd1
   refine ⟨_, rfl, d, rfl, ⟨_, .of hd2⟩, ?_⟩
   refine tcomp_ints (tf := tTest (tOp (rI0 fun i j => .bl (decide (j ≤ i))) (tVar 0) (tOp (rI CPow fun i j => .int (i ^ j.toNat)) (tC (.int 10)) (tC (.int 18))))) (te := tVar 0) (fun n => decide ((10 : Int) ^ (18 : Int).toNat ≤ n)) (fun n => n) (.of hd2) hal (fun n H' R r => ⟨_, rfl, 10, 18, rfl, rfl, ⟨by decide, by decide, by decide⟩, _, _, rfl, rfl, _, rfl, r⟩) (fun n H' R r => ⟨_, rfl, r⟩) fun e he => ?_
   rw [List.map_id']
   have hfl : ∀ n ∈ es.filter (fun n => decide ((10 : Int) ^ (18 : Int).toNat ≤ n)), 0 ≤ n := fun n hn => habs n (List.mem_filter.mp hn).1
   generalize es.filter (fun n => decide ((10 : Int) ^ (18 : Int).toNat ≤ n)) = left at hfl
   have npe : p ≠ e := fun z => by rw [← z, upd_same] at he; cases he
   refine ⟨e, _, rfl, .of upd_same, fun l hln => ?_⟩
   have npl : p ≠ l := fun z => by
     rw [← z, upd_ne npe, upd_same] at hln
     cases hln
   have nel : e ≠ l := fun z => by rw [← z, upd_same] at hln; cases hln
   have hlp : upd H' p (.dK []) l = none := by rw [upd_ne (Ne.symm nel)] at hln; exact hln
   have hlH : H' l = none := by rw [upd_ne (Ne.symm npl)] at hlp; exact hlp
   refine ⟨by rw [upd_ne npl, upd_ne npe]; exact upd_same, dealKv s 0 l, rfl, by show 3 ≤ 15; decide, ?_⟩
   have em : mergeK [] (dealKv s 0 l) = dealKv s 0 l := by
     have a1 : ¬ (kSeed = kNum) := by decide +kernel
     have a2 : ¬ (kSeed = kLeft) := by decide +kernel
     have a3 : ¬ (kNum = kLeft) := by decide +kernel
     simp [mergeK, dealKv, putK, a1, a2, a3]
   rw [em]
   have heH : H' e = none := by rw [upd_ne (Ne.symm npe)] at he; exact he
   have hm : (left.map V.int).reverse = left.reverse.map V.int := List.map_reverse.symm
   rw [hm]
   refine q p l s left.reverse _ (g2.free hp) (g2.free hlH) (fun b o eb => ?_) ⟨npl, upd_same, ?_, h1, h2, Int.le_refl 0, fun n hn => hfl n (List.mem_reverse.mp hn)⟩
   · have e1 := g2 b o eb
     have n1 : b ≠ p := fun z => by rw [z, hp] at e1; cases e1
     have n2 : b ≠ l := fun z => by rw [z, hlH] at e1; cases e1
     have n3 : b ≠ e := fun z => by rw [z, heH] at e1; cases e1
     rw [upd_ne n1, upd_ne n2, upd_ne n3, upd_ne n1]
     exact e1
   · rw [upd_ne (Ne.symm npl)]
     exact upd_same
theorem letters_bodyG {K : PySem.W.Frag} {φ : Ob → Prop} (hp : ∀ (O : Ob) (D : Addr) (u : HO), φ O → ¬ O.M D → φ (O.plus D u)) {O : Ob} {H : Hp} {ds : List PyData} {ws : List V} {Qr : R → Prop} {Q : VK} {x1 x2 x3 : Str} (ok : O.Ok) (hφ : φ O) (p : O.P H) (is : IsAll K (unM O) H ws ds) (q : lettersF ds Qr) (kk : ∀ r, Qr r → ∀ v H', Stp O H H' → Out K O H H' v r → Q v H') :
   tLetters K (spD K φ 1 drawF) { nx := fun _ H' => Q .non H', rt := Q } (L2.start [x1, x2, x3] (O.v :: ws)) H := by
 obtain ⟨m, rfl, m0, m1, q⟩ := q
 obtain ⟨v, rfl, iv⟩ := isAll_one is
 cases iv
 have hsz : sizeLine = 16777216 := sizeLine_eq
 refine ⟨_, rfl, by decide, fun l hl => ?_⟩
 have eabc : (Str.ofString "abcdefghijklmnopqrstuvwxyz").cps.toList = abc := by decide +kernel
 rw [eabc]
 have sl : Stp O H (upd H l (.lst (abc.map fun c => V.str (sg c)))) := .new ok hl _
 have nMl : ¬ O.M l := fun mm => by obtain ⟨o, z⟩ := ok.here H l p mm; rw [hl] at z; cases z
 have al : ∀ b o, H b = some o → b ≠ l := fun b o e z => by rw [z, hl] at e; cases e
 refine ⟨rfl, ?_⟩
 refine ⟨_, rfl, m, rfl, by omega, by omega, fun D hD => ?_⟩
 have nlD : l ≠ D := fun z => by rw [← z, upd_same] at hD; cases hD
 have hDH : H D = none := Same.free (L3.same_new hl _) hD
 have nMD : ¬ O.M D := fun mm => by obtain ⟨o, z⟩ := ok.here H D p mm; rw [hDH] at z; cases z
 have aD : ∀ b o, H b = some o → b ≠ D := fun b o e z => by rw [z, hDH] at e; cases e
 have pl : ∀ {H' : Hp} {b : Addr} {o : HO}, ¬ O.M b → O.P H' → O.P (upd H' b o) := fun {H' b o} nb pp => ok.loc H' _ (fun c mc => upd_ne fun z => nb (z ▸ mc)) pp
 refine ⟨fun i c ys H' => c = m.toNat - i ∧ i ≤ m.toNat ∧ H' D = some (.lst ys) ∧ (∃ w r : List Nat, ys = w.map (fun c => V.str (sg c)) ∧ w.length = i ∧ (∀ c ∈ w, isLow c) ∧ H' l = some (.lst (r.map fun c => V.str (sg c))) ∧ r.length + i = 26 ∧ (∀ c ∈ r, isLow c) ∧ (w ++ r).Nodup) ∧
     O.P H' ∧ (∀ b o, H b = some o → ¬ O.M b → H' b = some o) ∧ TupStay H H', ⟨_, rfl, Nat.zero_le _, upd_same, ⟨[], abc, rfl, rfl, by simp, by rw [upd_ne nlD]; exact upd_same, rfl, by unfold isLow; decide, by decide⟩, pl nMD (pl nMl p), fun b o e n => ?_, fun b u _ e => ?_⟩, ?_⟩
 · rw [upd_ne (aD b o e), upd_ne (al b o e)]; exact e
 · rw [upd_ne (aD b u e), upd_ne (al b u e)]; exact e
 rintro i c ys H' ⟨rfl, hi, hDy, ⟨w, r, rfl, hw, hwl, hr, hrl, hrc, hnd⟩, pp, kp, ts⟩
 refine ⟨hDy, ?_⟩
 by_cases hlt : i < m.toNat
 · right
   refine ⟨hlt, fun x H2 ⟨e2, _⟩ => ?_⟩
   subst e2
   have hr0 : 0 < r.length := by omega
   show tBM K "list" rPopAt (tVar 3) _ _ H2 _
   refine ⟨_, rfl, .inl ⟨rfl, _, .of hr⟩, _, rfl, ?_⟩
   refine ⟨_, rfl, _, r.length, rfl, .inl ⟨_, .of hr, by rw [List.length_map]⟩, ?_⟩
   have okp := (ok.plus D (w.map fun c => V.str (sg c))).plus l (r.map fun c => V.str (sg c))
   have nl2 : ¬ (O.plus D (.lst (w.map fun c => V.str (sg c)))).M l := fun mm => by
     rcases mm with mm | mm
     · exact nMl mm
     · exact nlD mm
   show spD K φ 1 drawF ([O.v, V.int r.length] ++ []) H2 _ E0
   refine ⟨_, [.int r.length], [.int r.length], fun x => ∃ k : Int, x = .o (.int k) ∧ 0 ≤ k ∧ k < r.length, okp, hp _ l _ (hp _ D _ hφ nMD) nl2, ⟨⟨pp, hDy⟩, hr⟩, rfl, rfl, .cons (.int _) .nil, ⟨_, rfl, by omega, by omega, fun k k0 k1 => ⟨k, rfl, k0, k1⟩⟩, ?_⟩
   rintro _ ⟨k, rfl, k0, k1⟩ v H3 st o3
   cases o3
   obtain ⟨⟨p3, hD3⟩, hl3⟩ := st.p ⟨⟨pp, hDy⟩, hr⟩
   have hk : k.toNat < r.length := by omega
   have ek : k = ((k.toNat : Nat) : Int) := by omega
   refine ⟨l, _, k, k.toNat, V.str (sg r[k.toNat]), rfl, rfl, hl3, by omega, by omega, ?_, by rw [List.getElem?_map, List.getElem?_eq_getElem hk]; rfl, ?_⟩
   · rw [List.length_map]
     unfold seqIndex?
     simp only [show ¬ k < 0 by omega, if_false]
     first | (rw [if_pos (by omega)]) | (simp; omega) | omega
   · have ne1 : D ≠ l := Ne.symm nlD
     refine ⟨by rw [upd_ne ne1]; exact hD3, by rw [List.length_map]; omega, m.toNat - (i + 1), by omega, rfl, hlt, upd_same, ⟨w ++ [r[k.toNat]], r.eraseIdx k.toNat, by rw [List.map_append]; rfl, by rw [List.length_append, hw]; rfl, fun c hc => ?_, ?_, ?_, fun c hc => hrc c (eraseIdx_mem hc), ?_⟩, pl nMD (pl nMl p3), fun b o e n => ?_, fun b u hu e => ?_⟩
     · rcases List.mem_append.mp hc with hc | hc
       · exact hwl c hc
       · rw [List.mem_singleton.mp hc]; exact hrc _ (List.getElem_mem hk)
     · rw [upd_ne nlD, upd_same, erase_map]
     · rw [List.length_eraseIdx]
       rw [if_pos hk]
       omega
     · rw [List.append_assoc]
       refine (List.Perm.nodup_iff (List.Perm.append_left w ?_)).mp hnd
       exact (perm_pick hk).symm
     · rw [upd_ne (aD b o e), upd_ne (al b o e)]
       exact st.s b o (kp b o e n) fun mm => by
         rcases mm with (mm | mm) | mm
         · exact n mm
         · exact aD b o e mm
         · exact al b o e mm
     · rw [upd_ne (aD b u e), upd_ne (al b u e)]
       exact st.t b u hu (ts b u hu e)
 · left
   have e : i = m.toNat := by omega
   refine ⟨by show m.toNat ≤ i; omega, ?_⟩
   refine ⟨D, w.map sg, rfl, by rw [hDy, List.map_map]; rfl, by rw [List.length_map]; omega, fun zs z hpm hs hz => ?_⟩
   obtain ⟨w2, rfl, hw2⟩ := unsg (zs := zs) fun y hy => by
     obtain ⟨c, hc, rfl⟩ := List.mem_map.mp (hpm.mem_iff.mp hy)
     exact ⟨c, rfl, hwl c hc⟩
   have hlen : w2.length = w.length := by have := hpm.length_eq; simpa using this
   have hinc : w2.Pairwise (· < ·) := by
     refine sorted_inc hs ?_
     have hw1 : (w.map sg).Nodup := List.pairwise_map.mpr ((List.nodup_append.mp hnd).1.imp fun ne e => ne (sg_inj e))
     have hw3 : (w2.map sg).Nodup := hpm.symm.nodup_iff.mp hw1
     exact (List.pairwise_map.mp hw3).imp fun ne e => ne (congrArg sg e)
   refine ⟨_, z, w2.map sg, rfl, rfl, upd_same, ?_, ?_⟩
   · rw [sum_sg, List.length_map]
     have e0 : (Str.ofString "").length = 0 := by decide +kernel
     rw [e0]
     omega
   · rw [join_sg]
     have az : ∀ b o, H b = some o → ¬ O.M b → b ≠ z := fun b o eb n e2 => by rw [e2] at eb; have := kp z o eb (e2 ▸ n); rw [hz] at this; cases this
     have nMz : ¬ O.M z := fun mm => by obtain ⟨o, y⟩ := ok.here H' z pp mm; rw [hz] at y; cases y
     refine kk _ (q w2 (by omega) hw2 hinc) _ _ ⟨fun b o eb n => by rw [upd_ne (az b o eb n)]; exact kp b o eb n, fun _ => pl nMz pp, fun b u hu eb => ?_⟩ (Is.str _)
     have h1 := ts b u hu eb
     rw [upd_ne fun e2 => by rw [e2, hz] at h1; cases h1]
     exact h1
theorem letters_deal {K : PySem.W.Frag} {O : Ob} {H : Hp} {ds : List PyData} {ws : List V} {Qr : R → Prop} {Q : VK} {x1 x2 x3 : Str} (ok : O.Ok) (hφ : IsDeal O) (p : O.P H) (is : IsAll K (unM O) H ws ds) (q : lettersF ds Qr) (kk : ∀ r, Qr r → ∀ v H', Stp O H H' → Out K O H H' v r → Q v H') :
   tLetters K (spD K IsDeal 1 drawF) { nx := fun _ H' => Q .non H', rt := Q } (L2.start [x1, x2, x3] (O.v :: ws)) H := letters_bodyG (fun O D u h n => h.plus D u n) ok hφ p is q kk
end L3
namespace L68
open PySem PySem.Spec
open PyProof.Rows hiding St
open L2 L3
def top (i : Nat) : Stmt := PySem.Challenge.pw_lostpost_k68_sayings_as_texts.main.body.getD i (.Pass ⟨0, 0, 0, 0⟩)
section
variable {P : Program} {w : World} {K : PySem.W.Frag} {mg : Str → Option Value} {base : Heap} {k : Nat}
abbrev DDraw (P : Program) (w : World) (K : PySem.W.Frag) (mg : Str → Option Value) (base : Heap) : Prop := Def3 P w K mg base 1 "_law_draw" ["_law_deal_here", "_law_many"] (spD K IsDeal 1 drawF)
abbrev sDeal : Stmt := top 17
theorem scDeal : FnScope ["_law_script", "_law_base", "_law_cells", "_law_number", "_law_cell"] ["_law_script", "_law_base"] (defScope sDeal) := ⟨rfl, rfl, rfl, by decide +kernel, rfl, by decide +kernel, by decide +kernel⟩
theorem d_law_deal (B : Blt mg) (T : Top3 K mg "_law_deal" sDeal) : Def3 P w K mg base 1 "_law_deal" ["_law_script", "_law_base"] (spDeal K) := by
 obtain ⟨f, fd, Fu, m⟩ := T.ex
 refine ⟨f, fd, Fu.ok scDeal (fun vs H Q E h => by obtain ⟨a, ns, rfl, _⟩ := h; rfl) (fun cdv A outer s H vs Q E hr h => ?_), m, Fu.kp, Fu.binds (fun _ _ _ _ _ _ us hl => len2 hl fun _ _ => rfl)⟩
 obtain ⟨a, ns, rfl, hS, hl, q⟩ := h
 refine ⟨tMakeG K (tOp (rI0 fun i j => .int (i + j)) (tC (.int 6271)) (tOp (rI CMul fun i j => .int (i * j)) (tC (.int 11)) (tVar 1))) (tOp (rI (fun _ j => 0 < j) fun i j => .int (i % j)) (tOp (rI0 fun i j => .int (i + j)) (tOp (rI0 fun i j => .int (i + j)) (tOp (rI CMul fun i j => .int (i * j)) (tVar 3) (tC (.int 69313))) (tOp (rI (fun _ j => 0 < j) fun i j => .int (i % j)) (tVar 4) (tC (.int 2147483579)))) (tC (.int 17))) (tC (.int 2147483647))), ?_, makeG_body (s0 := 6271 + 11 * 0) (by decide) (by decide) (fun v v1 H Q q => ⟨_, rfl, 11, 0, rfl, rfl, .inl ⟨by decide, by decide⟩, 6271, 0, rfl, rfl, q⟩) (fun v v1 s n H Q h1 h2 q => ⟨_, rfl, s, 69313, rfl, rfl, .inl ⟨by omega, by omega⟩, _, rfl, n, 2147483579, rfl, rfl, (show (0 : Int) < 2147483579 by decide), _, _, rfl, rfl, _, _, rfl, rfl, _, _, rfl, rfl, (show (0 : Int) < 2147483647 by decide), q _ (Int.emod_nonneg _ (by decide)) (Int.lt_of_lt_of_le (Int.emod_lt_of_pos _ (by decide)) (by decide))⟩) hS hl q⟩
 have nd : (["_law_script", "_law_base", "_law_cells", "_law_number", "_law_cell"] : List Str).Nodup := by decide +kernel
 exact (pss_cons (ps_setComp (n0 := 2) nd rfl rfl rfl 1 (N' := ["_law_cell", "_law_script", "_law_base", "_law_cells", "_law_number", "._law_cell"]) (.of rfl (by kernel_rfl)) rfl (pi_list (pe_slice sl_list (pe_var (i := 0) rfl (by first | exact Or.inl rfl | exact Or.inr (Or.inl rfl) | exact Or.inr (Or.inr rfl))) (po_some (pe_var (i := 1) rfl (by first | exact Or.inl rfl | exact Or.inr (Or.inl rfl) | exact Or.inr (Or.inr rfl)))) (po_some pe_int))) (fun C s H ex => pg_name (of_decide_eq_true (by kernel_rfl)) rfl (by first | exact Or.inl rfl | exact Or.inr rfl) (by first | exact .inl rfl | exact .inr rfl)) (own_name (by decide)) (fun C s H ex => pf_nil) (fun C s H ex => pe_callB (call_max2 rfl) rfl B.max bt_max (pa_cons (pe_var (i := 0) rfl (by first | exact Or.inl rfl | exact Or.inr (Or.inl rfl) | exact Or.inr (Or.inr rfl))) (pa_cons (pe_op op_sub pe_int (pe_var (i := 0) rfl (by first | exact Or.inl rfl | exact Or.inr (Or.inl rfl) | exact Or.inr (Or.inr rfl)))) pa_nil))))
   (pss_cons (ps_set (i := 3) nd rfl (by first | exact Or.inl rfl | exact Or.inr rfl) (pe_op op_add pe_int (pe_op op_mul pe_int (pe_var (i := 1) rfl (by first | exact Or.inl rfl | exact Or.inr (Or.inl rfl) | exact Or.inr (Or.inr rfl))))))
   (pss_cons (ps_for PassesOwn.never rfl (pi_list (pe_var (i := 2) rfl (by first | exact Or.inl rfl | exact Or.inr (Or.inl rfl) | exact Or.inr (Or.inr rfl)))) (pg_name (i := 4) nd rfl (by first | exact Or.inl rfl | exact Or.inr rfl)) (pss_one (ps_set (i := 3) nd rfl (by first | exact Or.inl rfl | exact Or.inr rfl) (pe_op op_mod (pe_op op_add (pe_op op_add (pe_op op_mul (pe_var (i := 3) rfl (by first | exact Or.inl rfl | exact Or.inr (Or.inl rfl) | exact Or.inr (Or.inr rfl))) pe_int) (pe_op op_mod (pe_var (i := 4) rfl (by first | exact Or.inl rfl | exact Or.inr (Or.inl rfl) | exact Or.inr (Or.inr rfl))) pe_int)) pe_int) pe_int))))
   (pss_one (ps_ret (pe_disp (pps_cons pe_str (pe_var (i := 3) rfl (by first | exact Or.inl rfl | exact Or.inr (Or.inl rfl) | exact Or.inr (Or.inr rfl))) (pps_cons pe_str pe_int (pps_cons pe_str (pe_listrev (hr.hd) rfl B.list rfl B.reversed (pe_comp 1 (N' := ["_law_cell", "_law_script", "_law_base", "_law_cells", "_law_number", "._law_cell"]) (.of rfl (by kernel_rfl)) rfl (pi_list (pe_var (i := 2) rfl (by first | exact Or.inl rfl | exact Or.inr (Or.inl rfl) | exact Or.inr (Or.inr rfl)))) (fun C s H ex => pg_name (of_decide_eq_true (by kernel_rfl)) rfl (by first | exact Or.inl rfl | exact Or.inr rfl) (by first | exact .inl rfl | exact .inr rfl)) (own_name (by decide)) (fun C s H ex => pf_one (pt_cmpR op_ge (pe_var (i := 0) rfl (by first | exact Or.inl rfl | exact Or.inr (Or.inl rfl) | exact Or.inr (Or.inr rfl))) (pe_op op_pow pe_int pe_int) (nomark _))) (fun C s H ex => (pe_var (i := 0) rfl (by first | exact Or.inl rfl | exact Or.inr (Or.inl rfl) | exact Or.inr (Or.inr rfl)))))) pps_nil))) rfl rfl (by simp) (by decide)))))))
def dc : DC := ⟨5003, 39373, 60013, 2147483587, 2147483549, 2147483563⟩
theorem dc_ok : dc.Ok := ⟨by decide, by decide, by decide, by decide⟩
abbrev sDraw : Stmt := top 18
theorem scDraw : FnScope ["_law_deal_here", "_law_many", "_law_number", "_law_one", "_law_other"] ["_law_deal_here", "_law_many"] (defScope sDraw) := ⟨rfl, rfl, rfl, by decide +kernel, rfl, by decide +kernel, by decide +kernel⟩
theorem d_law_draw (B : Blt mg) (T : Top3 K mg "_law_draw" sDraw) : Def3 P w K mg base 1 "_law_draw" ["_law_deal_here", "_law_many"] (spD K IsDeal 1 drawF) := by
 obtain ⟨f, fd, Fu, m⟩ := T.ex
 refine ⟨f, fd, Fu.ok scDraw (spD_len rfl) (fun cdv A outer s H vs Q E hr h => ?_), m, Fu.kp, Fu.binds (fun _ _ _ _ _ _ us hl => len2 hl fun _ _ => rfl)⟩
 obtain ⟨O, ds, ws, Qr, ok, hφ, p, hl, rfl, is, q, kk⟩ := h
 refine ⟨tDealDG K dc, ?_, dealDG_body dc_ok hφ p is q kk⟩
 have nd : (["_law_deal_here", "_law_many", "_law_number", "_law_one", "_law_other"] : List Str).Nodup := by decide +kernel
 exact (pss_cons (ps_while PassesOwn.never (PW.pt (pw_and (pt_cmpR op_eq (pe_dget (hu_of hr) (pe_var (i := 0) rfl (by first | exact Or.inl rfl | exact Or.inr (Or.inl rfl) | exact Or.inr (Or.inr rfl))) pe_str (fun _ _ => rfl)) pe_int (nomark _)) (pw_and1 (pt_cmpR op_gt (pe_callB call_len rfl B.len bt_len (pa_cons (pe_dget (hu_of hr) (pe_var (i := 0) rfl (by first | exact Or.inl rfl | exact Or.inr (Or.inl rfl) | exact Or.inr (Or.inr rfl))) pe_str (fun _ _ => rfl)) pa_nil)) pe_int (nomark _))))) (pss_one (ps_dput (hu_of hr) (pe_var (i := 0) rfl (by first | exact Or.inl rfl | exact Or.inr (Or.inl rfl) | exact Or.inr (Or.inr rfl))) pe_str (pe_bm0 PySem.F.plainAttrs_list PySem.F.slot_list_pop PySem.F.type_list_pop mtr_pop (pe_dget (hu_of hr) (pe_var (i := 0) rfl (by first | exact Or.inl rfl | exact Or.inr (Or.inl rfl) | exact Or.inr (Or.inr rfl))) pe_str (fun _ _ => rfl))) rfl)))
   (pss_cons (ps_set (i := 2) nd rfl (by first | exact Or.inl rfl | exact Or.inr rfl) (pe_dget (hu_of hr) (pe_var (i := 0) rfl (by first | exact Or.inl rfl | exact Or.inr (Or.inl rfl) | exact Or.inr (Or.inr rfl))) pe_str (fun _ _ => rfl)))
   (pss_cons (ps_if (pt_cmpR op_gt (pe_var (i := 2) rfl (by first | exact Or.inl rfl | exact Or.inr (Or.inl rfl) | exact Or.inr (Or.inr rfl))) pe_int (nomark _)) (pss_cons (ps_dput (hu_of hr) (pe_var (i := 0) rfl (by first | exact Or.inl rfl | exact Or.inr (Or.inl rfl) | exact Or.inr (Or.inr rfl))) pe_str (pe_op op_fdiv (pe_var (i := 2) rfl (by first | exact Or.inl rfl | exact Or.inr (Or.inl rfl) | exact Or.inr (Or.inr rfl))) (pe_var (i := 1) rfl (by first | exact Or.inl rfl | exact Or.inr (Or.inl rfl) | exact Or.inr (Or.inr rfl)))) rfl) (pss_one (ps_ret (pe_op op_mod (pe_var (i := 2) rfl (by first | exact Or.inl rfl | exact Or.inr (Or.inl rfl) | exact Or.inr (Or.inr rfl))) (pe_var (i := 1) rfl (by first | exact Or.inl rfl | exact Or.inr (Or.inl rfl) | exact Or.inr (Or.inr rfl))))))) pss_nil)
   (pss_cons (ps_set (i := 3) nd rfl (by first | exact Or.inl rfl | exact Or.inr rfl) (pe_op op_mod (pe_op op_add (pe_op op_mul (pe_dget (hu_of hr) (pe_var (i := 0) rfl (by first | exact Or.inl rfl | exact Or.inr (Or.inl rfl) | exact Or.inr (Or.inr rfl))) pe_str (fun _ _ => rfl)) pe_int) pe_int) pe_int))
   (pss_cons (ps_dput (hu_of hr) (pe_var (i := 0) rfl (by first | exact Or.inl rfl | exact Or.inr (Or.inl rfl) | exact Or.inr (Or.inr rfl))) pe_str (pe_op op_mod (pe_op op_add (pe_op op_mul (pe_var (i := 3) rfl (by first | exact Or.inl rfl | exact Or.inr (Or.inl rfl) | exact Or.inr (Or.inr rfl))) pe_int) pe_int) pe_int) rfl)
   (pss_cons (ps_set (i := 4) nd rfl (by first | exact Or.inl rfl | exact Or.inr rfl) (pe_op op_mod (pe_op op_mul (pe_dget (hu_of hr) (pe_var (i := 0) rfl (by first | exact Or.inl rfl | exact Or.inr (Or.inl rfl) | exact Or.inr (Or.inr rfl))) pe_str (fun _ _ => rfl)) (pe_dget (hu_of hr) (pe_var (i := 0) rfl (by first | exact Or.inl rfl | exact Or.inr (Or.inl rfl) | exact Or.inr (Or.inr rfl))) pe_str (fun _ _ => rfl))) pe_int))
   (pss_one (ps_ret (pe_op op_mod (pe_op op_add (pe_op op_mul (pe_op op_mod (pe_op op_mul (pe_var (i := 3) rfl (by first | exact Or.inl rfl | exact Or.inr (Or.inl rfl) | exact Or.inr (Or.inr rfl))) (pe_var (i := 3) rfl (by first | exact Or.inl rfl | exact Or.inr (Or.inl rfl) | exact Or.inr (Or.inr rfl)))) pe_int) pe_int) (pe_var (i := 4) rfl (by first | exact Or.inl rfl | exact Or.inr (Or.inl rfl) | exact Or.inr (Or.inr rfl)))) (pe_var (i := 1) rfl (by first | exact Or.inl rfl | exact Or.inr (Or.inl rfl) | exact Or.inr (Or.inr rfl))))))))))))
abbrev sAlphabet : Stmt := top 19
theorem scAlphabet : FnScope ["_law_deal_here", "_law_many", "_law_left"] ["_law_deal_here", "_law_many"] (defScope sAlphabet) := ⟨rfl, rfl, rfl, by decide +kernel, rfl, by decide +kernel, by decide +kernel⟩
theorem d_law_alphabet (B : Blt mg) (d_law_draw : DDraw P w K mg base) (T : Top3 K mg "_law_alphabet" sAlphabet) : Def3 P w K mg base 2 "_law_alphabet" ["_law_deal_here", "_law_many"] (spD K IsDeal 1 lettersF) := by
 obtain ⟨f, fd, Fu, m⟩ := T.ex
 refine ⟨f, fd, Fu.ok scAlphabet (spD_len rfl) (fun cdv A outer s H vs Q E hr h => ?_), m, Fu.kp, Fu.binds (fun _ _ _ _ _ _ us hl => len2 hl fun _ _ => rfl)⟩
 obtain ⟨O, ds, ws, Qr, ok, hφ, p, hl, rfl, is, q, kk⟩ := h
 refine ⟨tLetters K (spD K IsDeal 1 drawF), ?_, letters_deal ok hφ p is q kk⟩
 have nd : (["_law_deal_here", "_law_many", "_law_left"] : List Str).Nodup := by decide +kernel
 obtain ⟨fD, fdD, G, mD, kpD, bnD⟩ := d_law_draw.ex
 exact pss_cons (ps_set (i := 2) nd rfl (by first | exact Or.inl rfl | exact Or.inr rfl) (pe_callTy (call_listS rfl) rfl B.list bt_list (pa_cons pe_str pa_nil)))
   (pss_one (ps_ret (pe_bm PySem.F.plainAttrs_str PySem.F.slot_str_join PySem.F.type_str_join mtr_join pe_str (pa_cons (pe_callB call_sortS rfl B.sorted bt_sorted (pa_cons
     (pe_comp 1 (N' := ["_law_k", "_law_deal_here", "_law_many", "_law_left"]) (.of rfl (by kernel_rfl)) rfl (pi_range1 rfl B.range (pa_cons (pe_var (i := 1) rfl (by first | exact Or.inl rfl | exact Or.inr (Or.inl rfl) | exact Or.inr (Or.inr rfl))) pa_nil))
       (fun C s H ex => pg_name (of_decide_eq_true (by kernel_rfl)) rfl (by first | exact Or.inl rfl | exact Or.inr rfl) (by first | exact .inl rfl | exact .inr rfl)) (own_name (by decide)) (fun C s H ex => pf_nil)
       (fun C s H ex => pe_bm PySem.F.plainAttrs_list PySem.F.slot_list_pop PySem.F.type_list_pop mtr_popAt (pe_var (i := 3) rfl (by first | exact Or.inl rfl | exact Or.inr (Or.inl rfl) | exact Or.inr (Or.inr rfl)))
         (pa_cons (pe_call (k := 1) (by exact G) (by exact hr) rfl mD kpD bnD .nil pass0 (pa_cons (pe_var (i := 1) rfl (by first | exact Or.inl rfl | exact Or.inr (Or.inl rfl) | exact Or.inr (Or.inr rfl))) (pa_cons (pe_callB call_len rfl B.len bt_len (pa_cons (pe_var (i := 3) rfl (by first | exact Or.inl rfl | exact Or.inr (Or.inl rfl) | exact Or.inr (Or.inr rfl))) pa_nil)) pa_nil))) pa_nil))) pa_nil)) pa_nil))))
end
end L68
namespace L3
open PySem PySem.Spec
open PyProof.Rows hiding St
open L2
section
variable {K : PySem.W.Frag} {O : Ob} {H₀ H H' : Hp} {A : Nat → Addr → Prop} {σ : St} {ρ : DSt}
def reg (A : Nat → Addr → Prop) (i : Nat) (W : Addr → Prop) : Nat → Addr → Prop := fun j b => (j ≠ i ∧ A j b) ∨ (j = i ∧ W b)
theorem Rep.tstay {i : Nat} (r : Rep K O H₀ A H σ ρ) (stay : ∀ b u, H b = some u → ¬ A i b → H' b = some u) : TupStay H H' := fun b u hu hb => stay b u hb fun z => by
 obtain ⟨_, ⟨o, q, ho⟩, _⟩ := r.own i b z
 rw [hb] at q
 cases q
 obtain ⟨us, e1 | ⟨o', e1⟩⟩ := hu
 · exact (ho us).1 e1
 · exact (ho us).2 o' e1
theorem Rep.setT {i : Nat} {v : V} {W : Addr → Prop} {T : Thg} {H1 : Hp} (r : Rep K O H₀ A H σ ρ) (s : Stp O H H1) (stay1 : ∀ b u, H1 b = some u → ¬ A i b → H' b = some u) (hW : ∀ b, W b → (A i b ∨ H b = Option.none) ∧ ∃ o, H' b = some o ∧ OwnO o)
   (hR : T.R K (unO O (reg A i W)) W H' v) : Rep K O H₀ (reg A i W) H' (σ.set i (some v)) (ρ.set i (some (.thg T))) := by
 have ts1 := (r.stp s).tstay stay1
 have ts : TupStay H H' := fun b u hu hb => ts1 b u hu (s.t b u hu hb)
 have nA : ∀ b, O.M b → ¬ A i b := fun b m z => (r.own i b z).2.2 m
 have stay : ∀ b u, H b = some u → ¬ A i b → ¬ O.M b → H' b = some u := fun b u e z m => stay1 b u (s.s b u e m) z
 have sM : ∀ b, O.M b → H' b = H1 b := fun b m => by
   obtain ⟨o, e⟩ := r.ok.here H1 b (s.p r.p) m
   rw [e, stay1 b o e (nA b m)]
 have pp : O.P H' := r.ok.loc H1 _ sM (s.p r.p)
 have oth : ∀ {j b}, j ≠ i → A j b → ¬ A i b := fun hj a z => hj (r.dis _ _ _ a z)
 have un : ∀ b u, H b = some u → unO O A b → unO O (reg A i W) b := fun b u e f => ⟨f.1, fun j z => by
   rcases z with z | z
   · exact f.2 j z.2
   · rcases (hW b z.2).1 with y | y
     · exact f.2 i y
     · rw [e] at y; cases y⟩
 have tF : ∀ b u, unO O A b → H b = some u → unO O (reg A i W) b ∧ H' b = some u := fun b u f q => ⟨un b u q f, stay b u q (f.2 i) f.1⟩
 have mv : ∀ {v d}, Is K (unO O A) H v d → Is K (unO O (reg A i W)) H' v d := fun z => z.to (fun b ys f q => tF b _ f q) fun b ys q => SqT.stay (h := q) ts
 have mvs : ∀ {v d}, IsAll K (unO O A) H v d → IsAll K (unO O (reg A i W)) H' v d := fun z => z.to (fun b ys f q => tF b _ f q) fun b ys q => SqT.stay (h := q) ts
 have wm : ∀ b, W b → H₀ b = Option.none ∧ ¬ O.M b := fun b w => by
   rcases (hW b w).1 with z | z
   · exact ⟨(r.own i b z).1, (r.own i b z).2.2⟩
   · have m : ¬ O.M b := fun m => by obtain ⟨o, e⟩ := r.ok.here H b r.p m; rw [z] at e; cases e
     exact ⟨r.st.s.free m z, m⟩
 refine ⟨r.ok, pp, r.p0, ⟨fun b o hb n => ?_, fun _ => pp, fun b u hu hb => ts b u hu (r.st.t b u hu hb)⟩, fun j k b x y => ?_, fun j b x => ?_, fun j x e => ?_, by rw [List.length_set, List.length_set]; exact r.len⟩
 · exact stay b o (r.st.s b o hb n) (fun z => by rw [(r.own i b z).1] at hb; cases hb) n
 · rcases x with x | x <;> rcases y with y | y
   · exact r.dis j k b x.2 y.2
   · rcases (hW b y.2).1 with z | z
     · exact absurd (r.dis j i b x.2 z) x.1
     · obtain ⟨_, ⟨o, q, _⟩, _⟩ := r.own j b x.2; rw [z] at q; cases q
   · rcases (hW b x.2).1 with z | z
     · exact absurd (r.dis k i b y.2 z) y.1
     · obtain ⟨_, ⟨o, q, _⟩, _⟩ := r.own k b y.2; rw [z] at q; cases q
   · exact x.1.trans y.1.symm
 · rcases x with x | x
   · obtain ⟨h0, ⟨o, q, ho⟩, m⟩ := r.own j b x.2
     exact ⟨h0, ⟨o, stay b o q (oth x.1 x.2) m, ho⟩, m⟩
   · exact ⟨(wm b x.2).1, (hW b x.2).2, (wm b x.2).2⟩
 · by_cases hj : i = j
   · subst hj
     have hi : i < ρ.length := by
       rcases Nat.lt_or_ge i ρ.length with z | z
       · exact z
       · rw [List.getElem?_eq_none (by simpa using z)] at e; cases e
     rw [List.getElem?_set_self hi] at e
     cases e
     exact ⟨v, List.getElem?_set_self (by have := r.len; omega), T.to (fun b u f q => ⟨f, q⟩) (fun b u w q => ⟨.inr ⟨rfl, w⟩, q⟩) (TupStay.refl _) hR⟩
   · rw [List.getElem?_set_ne hj] at e
     obtain ⟨w, h1, h2⟩ := r.at_ j x e
     have hj' : j ≠ i := fun z => hj z.symm
     refine ⟨w, by rw [List.getElem?_set_ne hj]; exact h1, ?_⟩
     cases x with
     | im d => exact mv h2
     | own es =>
       obtain ⟨b, ys, rfl, hb, hlb, hs⟩ := h2
       exact ⟨b, ys, rfl, .inl ⟨hj', hb⟩, stay b _ hlb (oth hj' hb) (r.own j b hb).2.2, mvs hs⟩
     | ob => exact h2
     | scr n => exact IsS.to (fun b u f q => tF b u f q) h2
     | dct ks => obtain ⟨b, hb, h2⟩ := h2; exact ⟨b, .inl ⟨hj', hb⟩, h2.to fun u q => stay b u q (oth hj' hb) (r.own j b hb).2.2⟩
     | gen f ds => obtain ⟨b, xs, e, hb, q, z⟩ := h2; exact ⟨b, xs, e, .inl ⟨hj', hb⟩, stay b _ q (oth hj' hb) (r.own j b hb).2.2, mvs z⟩
     | rd f ds => obtain ⟨b, xs, e, hb, q, z⟩ := h2; exact ⟨b, xs, e, un b _ q hb, stay b _ q (hb.2 i) hb.1, mvs z⟩
     | exc C ns ds => obtain ⟨xs, e, z⟩ := h2; exact ⟨xs, e.to fun b u f q => tF b u f q, mvs z⟩
     | thg T => exact T.to (fun b u f q => tF b u f q) (fun b u w q => ⟨.inl ⟨hj', w⟩, stay b u q (oth hj' w) (r.own j b w).2.2⟩) ts h2
     | thr T => obtain ⟨W', hw, z⟩ := h2; exact ⟨W', fun b w => let ⟨f, o, q⟩ := hw b w; ⟨un b o q f, o, stay b o q (f.2 i) f.1⟩, T.to (fun b u f q => tF b u f q) (fun b u w q => ⟨w, stay b u q ((hw b w).1.2 i) (hw b w).1.1⟩) ts z⟩
theorem Frm.setT {i : Nat} {W : Addr → Prop} {H1 : Hp} (s : Stp O H H1) (stay : ∀ b u, H1 b = some u → ¬ A i b → H' b = some u) (hW : ∀ b, W b → (A i b ∨ H b = Option.none)) : Frm O A H (reg A i W) H' := fun b o e u => ⟨stay b o (s.s b o e u.1) (u.2 i), u.1, fun j z => by
 rcases z with z | z
 · exact u.2 j z.2
 · rcases hW b z.2 with y | y
   · exact u.2 i y
   · rw [e] at y; cases y⟩
theorem set_slot {i : Nat} {v : V} (h : σ[i]? = some (some v)) : σ.set i (some v) = σ := by
 apply List.ext_getElem?
 intro j
 by_cases e : i = j
 · subst e
   rw [List.getElem?_set_self (List.getElem?_eq_some_iff.mp h).1, h]
 · rw [List.getElem?_set_ne e]
end
mutual
inductive Ow (K : PySem.W.Frag) (H : Hp) : V → PyData → List Addr → Prop
 | leaf {v d} : flat d = true → Is K (fun _ => False) H v d → Ow K H v d []
 | list {a xs ds as} : H a = some (.lst xs) → OwAll K H xs ds as → Ow K H (.ref a) (.list ds) (a :: as)
 | tuple {a xs ds as} : H a = some (.tup xs) → OwAll K H xs ds as → Ow K H (.ref a) (.tuple ds) as
inductive OwAll (K : PySem.W.Frag) (H : Hp) : List V → List PyData → List Addr → Prop
 | nil : OwAll K H [] [] []
 | cons {v vs d ds as bs} : Ow K H v d as → OwAll K H vs ds bs → OwAll K H (v :: vs) (d :: ds) (as ++ bs)
end
section
variable {K : PySem.W.Frag} {H H' : Hp} {F : Addr → Prop}
mutual
theorem Ow.to (ts : TupStay H H') : ∀ {v d as}, (∀ a ∈ as, ∀ xs, H a = some (.lst xs) → H' a = some (.lst xs)) → Ow K H v d as → Ow K H' v d as
 | _, _, _, _, .leaf f i => .leaf f (i.flat ts f)
 | _, _, _, h, .list q r => .list (h _ (by simp) _ q) (OwAll.to ts (fun a m => h a (List.mem_cons_of_mem _ m)) r)
 | _, _, _, h, .tuple q r => .tuple (ts _ _ ⟨_, .inl rfl⟩ q) (OwAll.to ts h r)
theorem OwAll.to (ts : TupStay H H') : ∀ {vs ds as}, (∀ a ∈ as, ∀ xs, H a = some (.lst xs) → H' a = some (.lst xs)) → OwAll K H vs ds as → OwAll K H' vs ds as
 | _, _, _, _, .nil => .nil
 | _, _, _, h, .cons r t => .cons (Ow.to ts (fun a m => h a (List.mem_append_left _ m)) r) (OwAll.to ts (fun a m => h a (List.mem_append_right _ m)) t)
end
mutual
theorem Ow.mem : ∀ {v d as a}, Ow K H v d as → a ∈ as → ∃ xs, H a = some (.lst xs)
 | _, _, _, _, .leaf _ _, m => (List.not_mem_nil m).elim
 | _, _, _, _, .list q r, m => by
   rcases List.mem_cons.mp m with rfl | m
   · exact ⟨_, q⟩
   · exact OwAll.mem r m
 | _, _, _, _, .tuple q r, m => OwAll.mem r m
theorem OwAll.mem : ∀ {vs ds as a}, OwAll K H vs ds as → a ∈ as → ∃ xs, H a = some (.lst xs)
 | _, _, _, _, .nil, m => (List.not_mem_nil m).elim
 | _, _, _, _, .cons r t, m => by
   rcases List.mem_append.mp m with m | m
   · exact Ow.mem r m
   · exact OwAll.mem t m
end
mutual
theorem Ow.is : ∀ {v d as}, (∀ a ∈ as, F a) → Ow K H v d as → Is K F H v d
 | _, _, _, _, .leaf f i => i.flat (TupStay.refl _) f
 | _, _, _, h, .list q r => .list (h _ (by simp)) q (OwAll.is (fun a m => h a (List.mem_cons_of_mem _ m)) r)
 | _, _, _, h, .tuple q r => .tuple (.of q) (OwAll.is h r)
theorem OwAll.is : ∀ {vs ds as}, (∀ a ∈ as, F a) → OwAll K H vs ds as → IsAll K F H vs ds
 | _, _, _, _, .nil => .nil
 | _, _, _, h, .cons r t => .cons (Ow.is (fun a m => h a (List.mem_append_left _ m)) r) (OwAll.is (fun a m => h a (List.mem_append_right _ m)) t)
end
theorem OwAll.length : ∀ {vs ds as}, OwAll K H vs ds as → vs.length = ds.length
 | _, _, _, .nil => rfl
 | _, _, _, .cons _ t => by rw [List.length_cons, List.length_cons, OwAll.length t]
theorem OwAll.append : ∀ {vs ds as ws es bs}, OwAll K H vs ds as → OwAll K H ws es bs → OwAll K H (vs ++ ws) (ds ++ es) (as ++ bs)
 | _, _, _, _, _, _, .nil, s => s
 | _, _, _, _, _, _, .cons r t, s => by rw [List.append_assoc]; exact .cons r (OwAll.append t s)
theorem OwAll.flats : ∀ {vs ds}, IsAll K F H vs ds → L3.flats ds = true → OwAll K H vs ds []
 | _, _, .nil, _ => .nil
 | _, _, .cons r t, f => by
   rw [L3.flats, Bool.and_eq_true] at f
   exact OwAll.cons (as := []) (.leaf f.1 (r.flat (TupStay.refl _) f.1)) (OwAll.flats t f.2)
theorem OwAll.at : ∀ {vs : List V} {ds as} {k : Nat} {d}, OwAll K H vs ds as → ds[k]? = some d → ∃ v cs rest, vs[k]? = some v ∧ Ow K H v d cs ∧ as.Perm (cs ++ rest) ∧
   (∀ H' v' d' cs', TupStay H H' → (∀ a ∈ rest, ∀ xs, H a = some (.lst xs) → H' a = some (.lst xs)) → Ow K H' v' d' cs' → ∃ as', OwAll K H' (vs.set k v') (ds.set k d') as' ∧ as'.Perm (cs' ++ rest))
 | _, _, _, _, _, .nil, e => by simp at e
 | _, _, _, 0, _, .cons (as := as) (bs := bs) r t, e => by
   cases e
   exact ⟨_, as, bs, rfl, r, .refl _, fun H' v' d' cs' ts h o => ⟨_, .cons o (t.to ts h), .refl _⟩⟩
 | _, _, _, k + 1, d, .cons (as := as) (bs := bs) r t, e => by
   obtain ⟨v, cs, rest, h1, h2, h3, h4⟩ := OwAll.at (k := k) (d := d) t (by simpa using e)
   refine ⟨v, cs, as ++ rest, by simpa using h1, h2, ?_, fun H' v' d' cs' ts h o => ?_⟩
   · exact (h3.append_left as).trans (by rw [← List.append_assoc, ← List.append_assoc]; exact List.perm_append_comm.append_right _)
   · obtain ⟨as', o1, o2⟩ := h4 H' v' d' cs' ts (fun a m => h a (List.mem_append_right _ m)) o
     refine ⟨_, .cons (r.to ts fun a m => h a (List.mem_append_left _ m)) o1, ?_⟩
     exact (o2.append_left as).trans (by rw [← List.append_assoc, ← List.append_assoc]; exact List.perm_append_comm.append_right _)
end
def OwnV (p : V → Prop) (d : PyData) : Thg := ⟨fun K F W H v => p v ∧ ∃ as : List Addr, as.Nodup ∧ (∀ a ∈ as, W a) ∧ Ow K H v d as, fun {K F F' W W' H H' v} hF hW ts h => by
 obtain ⟨pv, as, n, m, o⟩ := h
 exact ⟨pv, as, n, fun a z => by obtain ⟨xs, q⟩ := o.mem z; exact (hW a _ (m a z) q).1, o.to ts fun a z xs q => (hW a _ (m a z) q).2⟩⟩
abbrev OwnT (d : PyData) : Thg := OwnV (fun _ => True) d
def dget : PyData → List Nat → Option PyData
 | d, [] => some d
 | .list ds, k :: p => match ds[k]? with
   | some d => dget d p
   | none => Option.none
 | .tuple ds, k :: p => match ds[k]? with
   | some d => dget d p
   | none => Option.none
 | _, _ :: _ => Option.none
def dset : PyData → List Nat → PyData → PyData
 | _, [], e => e
 | .list ds, k :: p, e => match ds[k]? with
   | some d => .list (ds.set k (dset d p e))
   | none => .list ds
 | .tuple ds, k :: p, e => match ds[k]? with
   | some d => .tuple (ds.set k (dset d p e))
   | none => .tuple ds
 | d, _ :: _, _ => d
inductive Nd (H : Hp) (U : Addr → Prop) : V → PyData → List Nat → V → PyData → Prop
 | nil {v d} : Nd H U v d [] v d
 | list {a xs ds k v d p w e} : U a → H a = some (.lst xs) → xs[k]? = some v → ds[k]? = some d → Nd H U v d p w e → Nd H U (.ref a) (.list ds) (k :: p) w e
 | tuple {a xs ds k v d p w e} : H a = some (.tup xs) → xs[k]? = some v → ds[k]? = some d → Nd H U v d p w e → Nd H U (.ref a) (.tuple ds) (k :: p) w e
section
variable {K : PySem.W.Frag} {H H' : Hp} {U : Addr → Prop}
theorem Nd.to (ts : TupStay H H') (h : ∀ a xs, U a → H a = some (.lst xs) → H' a = some (.lst xs)) : ∀ {v d p w e}, Nd H U v d p w e → Nd H' U v d p w e
 | _, _, _, _, _, .nil => .nil
 | _, _, _, _, _, .list u q h1 h2 t => .list u (h _ _ u q) h1 h2 (t.to ts h)
 | _, _, _, _, _, .tuple q h1 h2 t => .tuple (ts _ _ ⟨_, .inl rfl⟩ q) h1 h2 (t.to ts h)
theorem Nd.get : ∀ {v d p w e}, Nd H U v d p w e → dget d p = some e
 | _, _, _, _, _, .nil => rfl
 | _, _, _, _, _, .list u q h1 h2 t => by rw [dget, h2]; exact t.get
 | _, _, _, _, _, .tuple q h1 h2 t => by rw [dget, h2]; exact t.get
theorem Nd.snocL {a : Addr} {xs : List V} {ds : List PyData} {k : Nat} {w : V} {e : PyData} (u : U a) (q : H a = some (.lst xs)) (h1 : xs[k]? = some w) (h2 : ds[k]? = some e) : ∀ {v d p}, Nd H U v d p (.ref a) (.list ds) → Nd H U v d (p ++ [k]) w e
 | _, _, _, .nil => .list u q h1 h2 .nil
 | _, _, _, .list u' q' g1 g2 t => .list u' q' g1 g2 (t.snocL u q h1 h2)
 | _, _, _, .tuple q' g1 g2 t => .tuple q' g1 g2 (t.snocL u q h1 h2)
theorem Nd.snocT {a : Addr} {xs : List V} {ds : List PyData} {k : Nat} {w : V} {e : PyData} (q : H a = some (.tup xs)) (h1 : xs[k]? = some w) (h2 : ds[k]? = some e) : ∀ {v d p}, Nd H U v d p (.ref a) (.tuple ds) → Nd H U v d (p ++ [k]) w e
 | _, _, _, .nil => .tuple q h1 h2 .nil
 | _, _, _, .list u' q' g1 g2 t => .list u' q' g1 g2 (t.snocT q h1 h2)
 | _, _, _, .tuple q' g1 g2 t => .tuple q' g1 g2 (t.snocT q h1 h2)
theorem flat_list {ds : List PyData} : ¬ flat (.list ds) = true := by simp [flat]
theorem dget_flat : ∀ {p : List Nat} {d e : PyData}, flat d = true → dget d p = some e → flat e = true
 | [], d, e, f, h => by cases h; exact f
 | k :: p, d, e, f, h => by
   cases d with
   | tuple ds =>
     rw [dget] at h
     cases q : ds[k]? with
     | none => rw [q] at h; cases h
     | some x =>
       rw [q] at h
       have f' : flats ds = true := by rw [flat] at f; exact f
       exact dget_flat (flats_iff.mp f' x (List.mem_of_getElem? q)) h
   | list ds => exact absurd f flat_list
   | _ => simp [dget] at h
theorem Ow.put : ∀ {v0 d as p} {a : Addr} {es : List PyData}, Ow K H v0 d as → as.Nodup → Nd H U v0 d p (.ref a) (.list es) → ∃ xs cs rest, H a = some (.lst xs) ∧ OwAll K H xs es cs ∧ as.Perm (a :: cs ++ rest) ∧
   ∀ H' ys es' bs, TupStay H H' → (∀ b ∈ rest, ∀ zs, H b = some (.lst zs) → H' b = some (.lst zs)) → H' a = some (.lst ys) → OwAll K H' ys es' bs → ∃ as', Ow K H' v0 (dset d p (.list es')) as' ∧ as'.Perm (a :: bs ++ rest)
 | _, _, _, [], _, _, o, nd, .nil => by
   cases o with
   | leaf f i => exact absurd f flat_list
   | list q r => exact ⟨_, _, [], q, r, by simp, fun H' ys es' bs ts h hy o' => ⟨_, .list hy o', by simp⟩⟩
 | _, _, _, k :: p, a, es, o, nd, t => by
   cases t with
   | @list a0 xs ds _ v d1 _ _ _ u q h1 h2 t =>
     cases o with
     | leaf f i => exact absurd f flat_list
     | @list _ xs0 ds0 as0 q0 r0 =>
       rw [q] at q0
       cases q0
       obtain ⟨v', cs, rest, g1, g2, g3, g4⟩ := r0.at h2
       rw [h1] at g1
       cases g1
       have n0 : (cs ++ rest).Nodup := g3.nodup_iff.mp (List.nodup_cons.mp nd).2
       obtain ⟨ys, cs', rest', k1, k2, k3, k4⟩ := Ow.put g2 (List.nodup_append.mp n0).1 t
       refine ⟨ys, cs', a0 :: (rest' ++ rest), k1, k2, ?_, fun H' zs es' bs ts h hy o' => ?_⟩
       · have e1 : as0.Perm (a :: cs' ++ (rest' ++ rest)) := g3.trans (by rw [← List.append_assoc]; exact k3.append_right rest)
         exact (e1.cons a0).trans (List.perm_middle.symm)
       · obtain ⟨as1, o1, p1⟩ := k4 H' zs es' bs ts (fun b m => h b (List.mem_cons_of_mem _ (List.mem_append_left _ m))) hy o'
         obtain ⟨as2, o2, p2⟩ := g4 H' v _ as1 ts (fun b m => h b (List.mem_cons_of_mem _ (List.mem_append_right _ m))) o1
         have es0 : xs.set k v = xs := by
           apply List.ext_getElem?
           intro j
           by_cases e : k = j
           · subst e; rw [List.getElem?_set_self (List.getElem?_eq_some_iff.mp h1).1, h1]
           · rw [List.getElem?_set_ne e]
         rw [es0] at o2
         refine ⟨a0 :: as2, ?_, ?_⟩
         · rw [dset, h2]
           exact .list (h a0 (by simp) _ q) o2
         · have e2 : as2.Perm (a :: bs ++ (rest' ++ rest)) := p2.trans (by rw [← List.append_assoc]; exact p1.append_right rest)
           exact (e2.cons a0).trans (List.perm_middle.symm)
   | @tuple a0 xs ds _ v d1 _ _ _ q h1 h2 t =>
     cases o with
     | leaf f i =>
       have := dget_flat f (Nd.get (.tuple (U := U) q h1 h2 t))
       exact absurd this flat_list
     | @tuple _ xs0 ds0 as0 q0 r0 =>
       rw [q] at q0
       cases q0
       obtain ⟨v', cs, rest, g1, g2, g3, g4⟩ := r0.at h2
       rw [h1] at g1
       cases g1
       have n0 : (cs ++ rest).Nodup := g3.nodup_iff.mp nd
       obtain ⟨ys, cs', rest', k1, k2, k3, k4⟩ := Ow.put g2 (List.nodup_append.mp n0).1 t
       refine ⟨ys, cs', rest' ++ rest, k1, k2, ?_, fun H' zs es' bs ts h hy o' => ?_⟩
       · exact g3.trans (by rw [← List.append_assoc]; exact k3.append_right rest)
       · obtain ⟨as1, o1, p1⟩ := k4 H' zs es' bs ts (fun b m => h b (List.mem_append_left _ m)) hy o'
         obtain ⟨as2, o2, p2⟩ := g4 H' v _ as1 ts (fun b m => h b (List.mem_append_right _ m)) o1
         have es0 : xs.set k v = xs := by
           apply List.ext_getElem?
           intro j
           by_cases e : k = j
           · subst e; rw [List.getElem?_set_self (List.getElem?_eq_some_iff.mp h1).1, h1]
           · rw [List.getElem?_set_ne e]
         rw [es0] at o2
         refine ⟨as2, ?_, ?_⟩
         · rw [dset, h2]
           exact .tuple (ts _ _ ⟨_, .inl rfl⟩ q) o2
         · exact p2.trans (by rw [← List.append_assoc]; exact p1.append_right rest)
end
end L3
namespace L3
open PySem PySem.Spec
open PyProof.Rows hiding St
open L2
section
variable {K : PySem.W.Frag} {O : Ob} {H₀ H H' : Hp} {A : Nat → Addr → Prop} {σ : St} {ρ : DSt}
def vTr (i : Nat) (p : V → Prop := fun _ => True) : DE := fun ρ Q => ∃ d, ρ[i]? = some (some (.thg (OwnV p d))) ∧ Q (.o d)
theorem tree_seen {i : Nat} {d : PyData} {p : V → Prop} (S : Seen K O H σ ρ) (e : ρ[i]? = some (some (.thg (OwnV p d)))) : ∃ v as, σ[i]? = some (some v) ∧ as.Nodup ∧ Ow K H v d as ∧ ∀ a ∈ as, ¬ O.M a := by
 obtain ⟨v, hv, W, hw, _, as, nd, m, o⟩ := S.at_ i _ e
 exact ⟨v, as, hv, nd, o, fun a z => (hw a (m a z)).1⟩
theorem ed_varT {i : Nat} {p : V → Prop} : ED K O (tVar i) (vTr i p) := fun σ H ρ Q Qd S h k => by
 obtain ⟨d, e, h⟩ := h
 obtain ⟨v, as, hv, nd, o, m⟩ := tree_seen S e
 exact ⟨v, hv, k _ H (.o d) (.refl _ _) (o.is m) h⟩
abbrev DOw := DSt → (PyData → Prop) → Prop
def EOw (K : PySem.W.Frag) (O : Ob) (t : TE) (f : DOw) : Prop :=
 ∀ (σ : St) (H : Hp) (ρ : DSt) (Q : VK) (Qd : PyData → Prop), Seen K O H σ ρ → f ρ Qd → (∀ v H' d as, Stp O H H' → Ow K H' v d as → as.Nodup → (∀ a ∈ as, H a = Option.none) → Qd d → Q v H') → t σ H Q
def oFlat (f : DE) : DOw := fun ρ Q => f ρ fun r => match r with
 | .o d => flat d = true ∧ Q d
 | .n ds => flats ds = true ∧ Q (.list ds)
theorem eo_flat {t : TE} {f : DE} (h : ED K O t f) : EOw K O t (oFlat f) := fun σ H ρ Q Qd S hf k => by
 refine h σ H ρ _ _ S hf fun v H1 r s1 o1 q => ?_
 cases r with
 | o d => exact k v H1 d [] s1 (.leaf q.1 (Is.flat (TupStay.refl _) o1 q.1)) .nil (fun _ m => (List.not_mem_nil m).elim) q.2
 | n ds =>
   obtain ⟨a, xs, rfl, hn, hl, hs⟩ := o1
   exact k _ H1 (.list ds) [a] s1 (.list hl (OwAll.flats hs q.1)) (by simp) (fun b m => by rw [List.mem_singleton.mp m]; exact hn) q.2
theorem ow_stp {H : Hp} {v : V} {d : PyData} {as : List Addr} (s : Stp O H H') (n : ∀ a ∈ as, ¬ O.M a) (o : Ow K H v d as) : Ow K H' v d as := o.to s.t fun a m xs q => s.s a _ q (n a m)
theorem new_notM {a : Addr} (ok : O.Ok) (p : O.P H) (h : H a = Option.none) : ¬ O.M a := fun m => by obtain ⟨o, z⟩ := ok.here H a p m; rw [h] at z; cases z
def setTS (i : Nat) (f : DOw) : DS := fun Dd ρ => f ρ fun d => Dd.nx (ρ.set i (some (.thg (OwnT d))))
theorem sd_setT {i : Nat} {t : TE} {f : DOw} (h : EOw K O t f) : SD K O (tAsg t (gName i)) (setTS i f) := fun H₀ A σ H ρ D Dd r q P => by
 refine h σ H ρ _ _ r.seen q fun v H1 d as s1 o1 n1 f1 q1 => ?_
 have m1 : ∀ a ∈ as, ¬ O.M a := fun a m => new_notM r.ok r.p (f1 a m)
 have hW : ∀ b, b ∈ as → (A i b ∨ H b = Option.none) ∧ ∃ o, H1 b = some o ∧ OwnO o := fun b m => ⟨.inr (f1 b m), by obtain ⟨xs, z⟩ := o1.mem m; exact ⟨_, z, .lst⟩⟩
 exact P.nx _ _ H1 _ (r.setT (W := fun b => b ∈ as) (T := OwnT d) s1 (fun b u e _ => e) hW ⟨trivial, as, n1, fun _ m => m, o1⟩) (.setT s1 (fun b u e _ => e) fun b m => (hW b m).1) q1
abbrev DL := DSt → PyData → (List Nat → PyData → Prop) → Prop
def LocE (K : PySem.W.Frag) (O : Ob) (i : Nat) (t : TE) (f : DL) : Prop :=
 ∀ (σ : St) (H : Hp) (ρ : DSt) (Q : VK) (Qd : List Nat → PyData → Prop) (U : Addr → Prop) (d : PyData) (v0 : V) (as : List Addr) (pp : V → Prop), Seen K O H σ ρ → ρ[i]? = some (some (.thg (OwnV pp d))) → σ[i]? = some (some v0) → Ow K H v0 d as → (∀ a ∈ as, U a) → (∀ a, U a → ¬ O.M a) → f ρ d Qd →
   (∀ v H' p e cs, Stp O H H' → Nd H' U v0 d p v e → Ow K H' v e cs → (∀ a ∈ cs, U a) → Qd p e → Q v H') → t σ H Q
def lVar : DL := fun _ d Q => Q [] d
theorem le_var {i : Nat} : LocE K O i (tVar i) lVar := fun σ H ρ Q Qd U d v0 as pp S e hv o m n hf k => ⟨v0, hv, k v0 H [] d as (.refl _ _) .nil o m hf⟩
def kids : PyData → Option (List PyData)
 | .list ds => some ds
 | .tuple ds => some ds
 | _ => Option.none
def lIx (f1 : DL) (f2 : DE) : DL := fun ρ d Q => f1 ρ d fun p e => f2 ρ fun r => ∃ (z : Int) (ds : List PyData) (k : Nat) (e' : PyData), flat e = false ∧ r.d = .int z ∧ kids e = some ds ∧ ixN ds.length z = some k ∧ ds[k]? = some e' ∧ Q (p ++ [k]) e'
theorem le_ix {i : Nat} {t1 t2 : TE} {f1 : DL} {f2 : DE} (h1 : LocE K O i t1 f1) (h2 : ED K O t2 f2) : LocE K O i (tOp (rIx K) t1 t2) (lIx f1 f2) := fun σ H ρ Q Qd U d v0 as pp S e hv o m n hf k => by
 refine h1 σ H ρ _ _ U d v0 as pp S e hv o m n hf fun v H1 p x cs s1 nd o1 m1 q0 => ?_
 refine h2 σ H1 ρ _ _ (S.stp s1) q0 fun y H2 r s2 o2 ⟨z, ds, j, e', fl, er, ek, ix, he, q⟩ => ?_
 clear q0
 have nd2 := nd.to s2.t fun a xs u q => s2.s a _ q (n a u)
 have oo := ow_stp s2 (fun a z => n a (m1 a z)) o1
 have iy := o2.is S.ok (s1.p S.p)
 rw [er] at iy
 cases iy
 cases oo with
 | leaf f1 _ => rw [fl] at f1; cases f1
 | @list a xs ds' as' q1 r1 =>
   cases ek
   obtain ⟨w, cs', rest, g1, g2, g3, _⟩ := r1.at he
   refine .inl ⟨a, xs, z, w, rfl, rfl, .of q1, ?_, k w H2 (p ++ [j]) e' cs' (s1.trans s2) (nd2.snocL (m1 a (by simp)) q1 g1 he) g2 (fun b z => m1 b (List.mem_cons_of_mem _ (g3.mem_iff.mpr (List.mem_append_left _ z)))) q⟩
   unfold atI
   rw [r1.length, ix]
   exact g1
 | @tuple a xs ds' as' q1 r1 =>
   cases ek
   obtain ⟨w, cs', rest, g1, g2, g3, _⟩ := r1.at he
   refine .inr (.inl ⟨a, xs, z, w, rfl, rfl, .of q1, ?_, k w H2 (p ++ [j]) e' cs' (s1.trans s2) (nd2.snocT q1 g1 he) g2 (fun b z => m1 b (g3.mem_iff.mpr (List.mem_append_left _ z))) q⟩)
   unfold atI
   rw [r1.length, ix]
   exact g1
def appTr (i : Nat) (fl : DL) (fe : DOw) (pp : V → Prop := fun _ => True) : DS := fun Dd ρ => ∃ d, ρ[i]? = some (some (.thg (OwnV pp d))) ∧ fl ρ d fun p e => ∃ ds, e = .list ds ∧ fe ρ fun x => ds.length < sizeLine ∧ Dd.nx (ρ.set i (some (.thg (OwnV pp (dset d p (.list (ds ++ [x])))))))
theorem perm_in {as bs : List Addr} (h : as.Perm bs) {a : Addr} (m : a ∈ bs) : a ∈ as := h.mem_iff.mpr m
theorem Rep.putT {i : Nat} {d : PyData} {v0 : V} {a : Addr} {p : List Nat} {es : List PyData} {H1 H2 : Hp} {pp : V → Prop} (r : Rep K O H₀ A H σ ρ) (e : ρ[i]? = some (some (.thg (OwnV pp d)))) (hv : σ[i]? = some (some v0)) (s1 : Stp O H H1) (s2 : Stp O H1 H2) (nd : Nd H1 (A i) v0 d p (.ref a) (.list es)) :
   ∃ xs cs, H2 a = some (.lst xs) ∧ OwAll K H2 xs es cs ∧ xs.length = es.length ∧ (∀ ys, TupStay H2 (upd H2 a (.lst ys))) ∧ a ∉ cs ∧ ∀ ys es' bs news, OwAll K (upd H2 a (.lst ys)) ys es' bs → bs.Perm (cs ++ news) → news.Nodup → (∀ b ∈ news, H1 b = Option.none ∧ ∃ zs, H2 b = some (.lst zs)) →
     ∃ W : Addr → Prop, Rep K O H₀ (reg A i W) (upd H2 a (.lst ys)) σ (ρ.set i (some (.thg (OwnV pp (dset d p (.list es')))))) ∧ Frm O A H (reg A i W) (upd H2 a (.lst ys)) := by
 obtain ⟨v1, hv1, pv, as, n0, m0, o0⟩ := r.at_ i _ e
 rw [hv] at hv1
 cases hv1
 have nM : ∀ b, A i b → ¬ O.M b := fun b z => (r.own i b z).2.2
 have s12 := s1.trans s2
 have o2 := ow_stp s12 (fun b m => nM b (m0 b m)) o0
 have nd2 := nd.to s2.t fun b xs u q => s2.s b _ q (nM b u)
 obtain ⟨xs, cs, rest, hx, ox, pm, put⟩ := o2.put n0 nd2
 have n1 : (a :: cs ++ rest).Nodup := pm.nodup_iff.mp n0
 have Aa : A i a := m0 a (perm_in pm (by simp))
 have stay : ∀ ys b u, H2 b = some u → ¬ A i b → upd H2 a (.lst ys) b = some u := fun ys b u q z => by rw [upd_ne (show b ≠ a from fun w => z (by rw [w]; exact Aa))]; exact q
 have ts : ∀ ys, TupStay H2 (upd H2 a (.lst ys)) := fun ys => (r.stp s12).tstay (stay ys)
 refine ⟨xs, cs, hx, ox, ox.length, ts, fun z => (List.nodup_cons.mp n1).1 (List.mem_append_left _ z), fun ys es' bs news oy pb nn hn => ?_⟩
 have ra : ∀ b ∈ rest, b ≠ a := fun b m w => by
   subst w
   exact (List.nodup_cons.mp n1).1 (List.mem_append_right _ m)
 obtain ⟨as', o3, pm'⟩ := put _ ys es' bs (ts ys) (fun b m zs q => by rw [upd_ne (ra b m)]; exact q) upd_same oy
 have pf : as'.Perm (as ++ news) := by
   refine pm'.trans ?_
   have e1 : (a :: bs ++ rest).Perm (a :: (cs ++ news) ++ rest) := (pb.append_right rest).cons a
   refine e1.trans ?_
   have e2 : (a :: (cs ++ news) ++ rest).Perm (a :: cs ++ rest ++ news) := by
     show (a :: (cs ++ news ++ rest)).Perm (a :: (cs ++ rest ++ news))
     refine List.Perm.cons a ?_
     rw [List.append_assoc, List.append_assoc]
     exact List.perm_append_comm.append_left cs
   exact e2.trans (pm.symm.append_right news)
 have fr : ∀ b ∈ news, H b = Option.none := fun b m => by
   obtain ⟨h1, zs, h2⟩ := hn b m
   cases q : H b with
   | none => rfl
   | some o =>
     have : ¬ O.M b := new_notM r.ok (s1.p r.p) h1
     rw [s1.s b o q this] at h1
     cases h1
 have nd3 : as'.Nodup := pf.nodup_iff.mpr (List.nodup_append.mpr ⟨n0, nn, fun b m c m' w => by
   subst w
   obtain ⟨_, ⟨o, q, _⟩, _⟩ := r.own i b (m0 b m)
   rw [fr b m'] at q
   cases q⟩)
 have hW : ∀ b, b ∈ as' → (A i b ∨ H b = Option.none) ∧ ∃ o, upd H2 a (.lst ys) b = some o ∧ OwnO o := fun b m => by
   refine ⟨?_, by obtain ⟨zs, z⟩ := o3.mem m; exact ⟨_, z, .lst⟩⟩
   rcases List.mem_append.mp (pf.mem_iff.mp m) with m | m
   · exact .inl (m0 b m)
   · exact .inr (fr b m)
 refine ⟨fun b => b ∈ as', ?_, Frm.setT s12 (stay ys) fun b m => (hW b m).1⟩
 have rr := r.setT (T := OwnV pp (dset d p (.list es'))) (v := v0) s12 (stay ys) hW ⟨pv, as', nd3, fun _ m => m, o3⟩
 rw [set_slot hv] at rr
 exact rr
theorem sd_appT {i : Nat} {pp : V → Prop} {tr te : TE} {fl : DL} {fe : DOw} (hl : LocE K O i tr fl) (he : EOw K O te fe) : SD K O (tDrop (tBM K "list" rAppend tr (tCons te tNil))) (appTr i fl fe pp) := fun H₀ A σ H ρ D Dd r q P => by
 obtain ⟨d, e, q⟩ := q
 obtain ⟨v0, hv, _, as, n0, m0, o0⟩ := r.at_ i _ e
 refine hl σ H ρ _ _ (A i) d v0 as pp r.seen e hv o0 m0 (fun a z => (r.own i a z).2.2) q fun v H1 p x cs s1 nd o1 m1 q1 => ?_
 obtain ⟨ds, rfl, q1⟩ := q1
 cases o1 with
 | leaf f _ => exact absurd f flat_list
 | @list a xs _ cs' hx ox =>
   refine ⟨.inl ⟨rfl, xs, .of hx⟩, ?_⟩
   refine he σ H1 ρ _ _ (r.stp s1).seen q1 fun w H2 y bs s2 o2 n2 f2 ⟨hz, q2⟩ => ?_
   obtain ⟨xs2, cs2, hx2, ox2, ln, ts, nc, put⟩ := r.putT e hv s1 s2 nd
   refine ⟨a, xs2, w, rfl, rfl, hx2, by rw [ln]; exact hz, ?_⟩
   have na : ∀ b ∈ bs, b ≠ a := fun b m z => by
     have := f2 b m
     rw [z, hx] at this
     cases this
   have up : ∀ b, b ≠ a → ∀ zs, H2 b = some (.lst zs) → upd H2 a (.lst (xs2 ++ [w])) b = some (.lst zs) := fun b n zs q => by rw [upd_ne n]; exact q
   obtain ⟨W, rr, ff⟩ := put (xs2 ++ [w]) (ds ++ [y]) (cs2 ++ (bs ++ [])) bs ((ox2.to (ts _) fun b m zs q => up b (fun z => nc (z ▸ m)) zs q).append (.cons (o2.to (ts _) fun b m zs q => up b (na b m) zs q) .nil)) (by rw [List.append_nil]) n2 fun b m => ⟨f2 b m, o2.mem m⟩
   exact P.nx _ σ _ _ rr ff q2
end
def Eo3 {ι κ : Type} (K : PySem.W.Frag) (X : ι → Cx) (O : κ → Ob) (e : Expr) (f : DOw) : Prop := ∃ t, (∀ i, PE (X i) e t) ∧ ∀ j, EOw K (O j) t f
def Lo3 {ι κ : Type} (K : PySem.W.Frag) (X : ι → Cx) (O : κ → Ob) (n : Nat) (e : Expr) (f : DL) : Prop := ∃ t, (∀ i, PE (X i) e t) ∧ ∀ j, LocE K (O j) n t f
section
variable {ι κ : Type} {P : Program} {w : World} {K : PySem.W.Frag} {mg : Str → Option Value} {base : Heap} {k : Nat} {X : ι → Cx} {O : κ → Ob} {a b : Expr} {es : List Expr} {fa fb : DE} {fo : DOw} {go : DOs} {fl : DL} {st : Stmt} {g : DS} {pos : Pos}
theorem o_flat (h : E3 K X O a fa) : Eo3 K X O a (oFlat fa) := let ⟨_, p, d⟩ := h; ⟨_, p, fun j => eo_flat (d j)⟩
theorem l_var (n : Nat) {x : Str} (hN : ∀ i, (X i).N[n]? = some x := by intro i; rfl) (hv : ∀ i, Vis (X i).env.scope x := by intro i; first | exact Or.inl rfl | exact Or.inr (Or.inl rfl) | exact Or.inr (Or.inr rfl))
   (hd : (x == ("__debug__" : Str)) = false := by decide) (hcd : (x == ("__classdict__" : Str)) = false := by decide) : Lo3 K X O n (.Name x pos) lVar := ⟨_, fun i => pe_var (hN i) (hv i) hd hcd, fun j => le_var⟩
theorem l_ix {n : Nat} (C : Ctx3 P w K mg base k X) (ha : Lo3 K X O n a fl) (hb : E3 K X O b fb) (hs : PlainIx b := by intro _ _; rfl) : Lo3 K X O n (.Subscript a b pos) (lIx fl fb) :=
 let ⟨_, p1, d1⟩ := ha; let ⟨_, p2, d2⟩ := hb; ⟨tOp (rIx K) _ _, fun i => by have h := pe_ix (pos := pos) (ix_seq (X := X i)) (p1 i) (p2 i) hs; rw [C.hK] at h; exact h, fun j => le_ix (d1 j) (d2 j)⟩
theorem s_setT (n : Nat) {x : Str} {px : Pos} (ha : Eo3 K X O a fo) (hN : ∀ i, (X i).N.Nodup := by intro i; exact of_decide_eq_true (by kernel_rfl)) (hi : ∀ i, (X i).N[n]? = some x := by intro i; rfl) (hx : ∀ i, Loc (X i).env.scope x := by intro i; first | exact Or.inl rfl | exact Or.inr rfl)
   (hs : ∀ i, swapsWith a (some (.Name x px)) pos.line (X i).env = pure false := by intro i; rfl) (hf : ∀ i, (X i).fn x = true ∨ (X i).env.scope.names.lookup x = some .local := by intro i; first | exact .inl rfl | exact .inr rfl) : S3 K X O (.Assign [.Name x px] a pos) (setTS n fo) :=
 let ⟨_, p, d⟩ := ha; ⟨_, fun i => ps_set (hN i) (hi i) (hx i) (p i) (hs i) (hf i), fun j => sd_setT (d j)⟩
theorem s_appT (n : Nat) {apos cpos : Pos} (C : Ctx3 P w K mg base k X) (hr : Lo3 K X O n a fl) (hb : Eo3 K X O b fo)
   (hbase : ∀ i, attributeBase a "append" (X i).env (eval a (X i).env) = eval a (X i).env := by intro i; rfl)
   (hfew : ∀ i, ((backTo cpos (starEach [b] (X i).env)).all (fun x => !x.1) && (backToKw cpos (keywordEach [] (X i).env)).all (fun x => x.1.isSome) && decide (([b] : List Expr).length + ([] : List Keyword).length + (if ([] : List Keyword).isEmpty then 0 else 1) < 30)) = true := by intro i; rfl)
   (hline : (apos.endLine == cpos.line) = true := by rfl) (hs : ∀ i, starEach [b] (X i).env = [(false, eval b (X i).env)] := by intro i; rfl) (hsw : ∀ i, swapsWith (.Call (.Attribute a "append" apos) [b] [] cpos) Option.none pos.line (X i).env = pure false := by intro i; rfl) (pp : V → Prop := fun _ => True) :
   S3 K X O (.Expr (.Call (.Attribute a "append" apos) [b] [] cpos) pos) (appTr n fl fo pp) := let ⟨_, p1, d1⟩ := hr; let ⟨_, p2, d2⟩ := hb;
 ⟨tDrop (tBM K "list" rAppend _ (tCons _ tNil)), fun i => by
   have h := pe_bm (apos := apos) (cpos := cpos) PySem.F.plainAttrs_list PySem.F.slot_list_append PySem.F.type_list_append (mtr_append (X := X i)) (p1 i) (pa_cons (p2 i) pa_nil (hs i)) (hbase i) (hfew i) hline (hs i)
   rw [C.hK] at h
   exact ps_expr h (hsw i), fun j => sd_appT (d1 j) (d2 j)⟩
end
end L3
namespace L3
open PySem PySem.Spec PySem.Calls
open PyProof.Rows hiding St
open L2
structure XGet (K : PySem.W.Frag) (C : Addr) : Prop where
 ga : PySem.W.findIn K (.ref C) "__getattribute__" = some (some (.builtin "BaseException.__getattribute__"))
 gn : PySem.W.findIn K (.ref C) "__getattr__" = some none
 base : PySem.W.mroIn K C (.type "BaseException") = some true
 obj : PySem.W.mroIn K C (.type "object") = some true
 dict : PySem.W.hasDictIn K C = true
 cls : PySem.W.findIn K (.ref C) "__class__" = some (some (.builtin "object.__class__"))
 cget : PySem.W.specialIn K (.builtin "object.__class__") "__get__" = some (some (.builtin "getset_descriptor.__get__"))
 ctk : PySem.W.takesIn K (.builtin "object.__class__") = some true
end L3
namespace L3
open PySem PySem.Spec PySem.Calls
open PyProof.Rows hiding St
open L2
def excD (c : Str) (ns : List Str) (ds : List PyData) : PyData := .dict [(.str c, .tuple (ns.map .str)), (.none, .tuple ds)]
def XOut (K : PySem.W.Frag) (mg : Str → Option Value) (O : Ob) (H H' : Hp) (C dx : Addr) (d : PyData) : Prop := ∃ (c : Str) (ns : List Str) (xs : List V) (ds : List PyData), d = excD c ns ds ∧ mg c = some (.ref C) ∧ H dx = none ∧ H' dx = some (.xd (ns.zip xs)) ∧ xs.length = ns.length ∧ IsAll K (unM O) H' xs ds
def XPost (K : PySem.W.Frag) (mg : Str → Option Value) (O : Ob) (H₀ : Hp) (E : XK) (Qr : R → Prop) : Prop := ∀ H' C dx d, Stp O H₀ H' → XOut K mg O H₀ H' C dx d → Qr (.o d) → E (.ref C) (some dx) H'
def SDx (K : PySem.W.Frag) (mg : Str → Option Value) (O : Ob) (E : XK) (t : TS) (g : DS) : Prop :=
 ∀ (H₀ : Hp) (A : Nat → Addr → Prop) (σ : St) (H : Hp) (ρ : DSt) (D : Ends) (Dd : DEnds), Rep K O H₀ A H σ ρ → g Dd ρ → Post K O H₀ A H D Dd → XPost K mg O H₀ E Dd.rt → t D σ H
section
variable {K : PySem.W.Frag} {mg : Str → Option Value} {O : Ob} {E : XK}
theorem XOut.ahead {H H1 H2 : Hp} {C dx : Addr} {d : PyData} (ok : O.Ok) (p : O.P H) (s : Stp O H H1) (h : XOut K mg O H1 H2 C dx d) : XOut K mg O H H2 C dx d := by
 obtain ⟨c, ns, xs, ds, e, m, n, q, l, i⟩ := h
 have nm : ¬ O.M dx := fun z => by obtain ⟨o, w⟩ := ok.here H1 dx (s.p p) z; rw [n] at w; cases w
 exact ⟨c, ns, xs, ds, e, m, s.s.free nm n, q, l, i⟩
theorem sdx_of {t : TS} {g : DS} (h : SD K O t g) : SDx K mg O E t g := fun H₀ A σ H ρ D Dd r q P _ => h H₀ A σ H ρ D Dd r q P
theorem sdx_seq {t u : TS} {g k : DS} (h : SDx K mg O E t g) (h' : SDx K mg O E u k) : SDx K mg O E (tSeq t u) (seqD g k) := fun H₀ A σ H ρ D Dd r q P XP =>
 h H₀ A σ H ρ _ _ r q ⟨fun A' σ' H' ρ' r' f q' => h' H₀ A' σ' H' ρ' D Dd r' q' (P.frm f) XP, P.bk, P.ct, P.rt⟩ XP
theorem sdx_if {c : TT} {t u : TS} {fc : DT} {g k : DS} (hc : TD K O c fc) (h : SDx K mg O E t g) (h' : SDx K mg O E u k) : SDx K mg O E (tIfS c t u) (ifS fc g k) := fun H₀ A σ H ρ D Dd r q P XP => by
 refine hc σ H ρ _ _ r.seen q fun b H1 s1 q1 => ?_
 cases b with
 | true => exact h H₀ A σ H1 ρ D Dd (r.stp s1) q1 (P.frm (.stp s1)) XP
 | false => exact h' H₀ A σ H1 ρ D Dd (r.stp s1) q1 (P.frm (.stp s1)) XP
theorem sdx_for {wi : TI} {tg : TG} {tb : TS} {f : DJ} {g : DG} {gb : DS} (hs : SrcR K O wi f) (hg : GR K O tg g) (hb : SDx K mg O E tb gb) : SDx K mg O E (tFor wi tg tb) (forS f g gb) := fun H₀ A σ H ρ D Dd r q P XP => by
 refine hs H₀ A σ H ρ _ _ r q fun J H1 ds B W uB go => ?_
 have r1 := r.stp W.st
 have f1 : Frm O A H A H1 := .stp W.st
 refine ⟨fun i m σ2 H2 => m = ds.length - i ∧ i ≤ ds.length ∧ ∃ A2 ρ2, Rep K O H₀ A2 H2 σ2 ρ2 ∧ Frm O A H1 A2 H2 ∧ forGo g gb Dd (ds.drop i) ρ2, ⟨ds.length, rfl, Nat.zero_le _, A, ρ, r1, .refl, by simpa using go⟩, ?_⟩
 rintro i m σ2 H2 ⟨rfl, hi, A2, ρ2, r2, f2, go2⟩
 have kB : ∀ a o, B a → H1 a = some o → H2 a = some o := fun a o b e => (f2 a o e (uB a b)).1
 have ts : TupStay H1 H2 := r1.tupStay f2
 by_cases hlt : i < ds.length
 · right
   have hd : ds[i]? = some ds[i] := List.getElem?_eq_getElem hlt
   rw [List.drop_eq_getElem_cons hlt] at go2
   obtain ⟨fl, go2⟩ := go2
   obtain ⟨hgo, hy⟩ := W.item H2 i ds[i] kB ts hd (.inl fl)
   refine ⟨hgo, fun σ' H' => ∃ A' ρ', Rep K O H₀ A' H' σ' ρ' ∧ Frm O A H1 A' H' ∧ forGo g gb Dd (ds.drop (i + 1)) ρ', fun σ' H' ⟨A', ρ', x1, x2, x3⟩ => ⟨ds.length - (i + 1), by omega, rfl, hlt, A', ρ', x1, x2, x3⟩, fun x H3 y => ?_⟩
   obtain ⟨sm, ix⟩ := hy x H3 y
   have st3 : Stp O H2 H3 := .same r2.ok sm
   have r3 := r2.stp st3
   refine hg H₀ A2 σ2 H3 ρ2 x ds[i] _ _ r3 fl (Is.flat (TupStay.refl H3) ix fl) go2 fun A3 σ3 ρ3 r3' f3 q3 => ?_
   have f13 : Frm O A H1 A3 H3 := (f2.trans (.stp st3)).trans f3
   exact hb H₀ A3 σ3 H3 ρ3 _ _ r3' q3 ⟨fun A' σ' H' ρ' r' f' q' => ⟨A', ρ', r', f13.trans f', q'⟩, fun A' σ' H' ρ' r' f' q' => P.nx A' σ' H' ρ' r' (f1.trans (f13.trans f')) q', fun A' σ' H' ρ' r' f' q' => ⟨A', ρ', r', f13.trans f', q'⟩, P.rt⟩ XP
 · left
   have e : i = ds.length := by omega
   subst e
   rw [List.drop_length] at go2
   exact ⟨W.stop H2 _ kB ts (Nat.le_refl _), P.nx A2 σ2 H2 ρ2 r2 (f1.trans f2) go2⟩
def raiseS (c : Str) (ns : List Str) (f : DA) : DS := fun Dd ρ => f ρ fun ds => ds.length = ns.length ∧ Dd.rt (.o (excD c ns ds))
theorem sdx_raise {c : Str} {C : Addr} {ns : List Str} {t : TA} {f : DA} (hm : mg c = some (.ref C)) (h : AD K O t f) : SDx K mg O E (tRaise C ns E t) (raiseS c ns f) := fun H₀ A σ H ρ D Dd r q P XP => by
 refine h σ H ρ _ _ r.seen q fun vs H1 ds s1 is ⟨hl, q1⟩ => ⟨by rw [is.length]; exact hl, fun d hd => ?_⟩
 have s2 : Stp O H1 (upd H1 d (.xd (ns.zip vs))) := .new r.ok hd _
 have st := r.st.trans s1
 have nm : ¬ O.M d := fun z => by obtain ⟨o, w⟩ := r.ok.here H1 d (s1.p r.p) z; rw [hd] at w; cases w
 exact XP _ C d _ (st.trans s2) ⟨c, ns, vs, ds, rfl, hm, st.s.free nm hd, upd_same, by rw [is.length]; exact hl, is.stp s2 (fun _ f => f) (fun _ f => f)⟩ q1
def spX (K : PySem.W.Frag) (mg : Str → Option Value) (φ : Ob → Prop) (n : Nat) (f : List PyData → (R → Prop) → Prop) : Sp := fun vs H Q E =>
 ∃ (O : Ob) (ds : List PyData) (Qr : R → Prop), O.Ok ∧ φ O ∧ O.P H ∧ ds.length = n ∧ IsAll K (unM O) H vs ds ∧ f ds Qr ∧ (∀ r, Qr r → ∀ v H', Stp O H H' → Out K O H H' v r → Q v H') ∧ XPost K mg O H E Qr
theorem spX_len {φ : Ob → Prop} {n : Nat} {f : List PyData → (R → Prop) → Prop} {ps : List Str} (hn : ps.length = n) : ∀ vs H Q E, spX K mg φ n f vs H Q E → vs.length = ps.length := fun vs H Q E zz => by obtain ⟨O, ds, _, _, _, _, h, is, _⟩ := zz; rw [is.length, h, hn]
theorem run_Ox {N : List Str} {t : TS} {g : DS} {H : Hp} {vs : List V} {ds : List PyData} {Q : VK} {Qr : R → Prop} (h : SDx K mg O E t g) (ok : O.Ok) (p : O.P H) (ia : IsAll K (unM O) H vs ds)
   (hg : g { nx := fun _ => Qr (.o .none), rt := Qr } (dstart N (ds.map .im))) (hQ : ∀ r, Qr r → ∀ v H', Stp O H H' → Out K O H H' v r → Q v H') (hX : XPost K mg O H E Qr) : t { nx := fun _ H' => Q .non H', rt := Q } (L2.start N vs) H := by
 refine h H _ _ H _ _ _ (rep_start ok p (by rw [List.length_map]; exact ia.length) fun i r e => ?_) hg ⟨fun A' σ' H' ρ' r' _ q => hQ _ q .non H' r'.st Is.none, fun A' σ' H' ρ' r' _ q => q.elim, fun A' σ' H' ρ' r' _ q => q.elim, fun H' v r s o q => hQ r q v H' s o⟩ hX
 rw [List.getElem?_map] at e
 obtain ⟨d, hd, rfl⟩ := Option.map_eq_some_iff.mp e
 obtain ⟨v, hv, iv⟩ := ia.get hd
 exact ⟨v, hv, .inl ⟨d, rfl, iv⟩⟩
end
structure Def3x (P : Program) (w : World) (K : PySem.W.Frag) (mg : Str → Option Value) (base : Heap) (k : Nat) (x : Str) (ps : List Str) (sp : Sp) : Prop where
 ex : ∃ f fd, FnOk P w K mg base (CX1 P w) k f fd ps sp ∧ mg x = some (.ref f) ∧ PySem.W.keepIn K (.ref f) = true ∧ Binds K fd ps []
def Sx3 (K : PySem.W.Frag) (mg : Str → Option Value) (Y : Cx) (E : XK) (O : Ob) (s : Stmt) (g : DS) : Prop := ∃ t, PS Y s t ∧ SDx K mg O E t g
def Ssx3 (K : PySem.W.Frag) (mg : Str → Option Value) (Y : Cx) (E : XK) (O : Ob) (s : List Stmt) (g : DS) : Prop := ∃ t, PSs Y s t ∧ SDx K mg O E t g
theorem PS.nox {X : Cx} {st : Stmt} {t : TS} (h : PS X.nox st t) : PS X st t := fun pins s σ H D I hw =>
 wpAny_mono (h pins s σ H D (I.wish _) hw) (fun _ _ q => q.unwish) fun _ _ z => False.elim z
theorem PA.nox {X : Cx} {es : List Expr} {t : TA} (h : PA X.nox es t) : PA X es t := fun pos pins s σ H Q I hw =>
 wpAny_mono (h pos pins s σ H Q (I.wish _) hw) (fun _ _ ⟨v, H', I', r, q⟩ => ⟨v, H', I'.unwish, r, q⟩) fun _ _ z => False.elim z
theorem PG.nox {X : Cx} {tg : Expr} {t : TG} (h : PG X.nox tg t) : PG X tg t := fun pins s σ H v u Q I r hw =>
 wpAny_mono (h pins s σ H v u Q (I.wish _) r hw) (fun _ _ ⟨σ', H', I', q⟩ => ⟨σ', H', I'.unwish, q⟩) fun _ _ z => False.elim z
theorem PI.nox {X : Cx} {tg iter : Expr} {t : TI} (h : PI X.nox tg iter t) : PI X tg iter t := fun pins s σ H R I hw =>
 wpAny_mono (h pins s σ H R (I.wish _) hw) (fun _ _ q => wpAny_mono q (fun _ _ ⟨it, fp, tn, J, H2, e, I2, rest⟩ => ⟨it, fp, tn, J, H2, e, I2.unwish, rest⟩) fun _ _ z => False.elim z) fun _ _ z => False.elim z
section
variable {P : Program} {w : World} {K : PySem.W.Frag} {mg : Str → Option Value} {base : Heap} {k : Nat} {Y : Cx} {E : XK} {O : Ob} {c iter tg : Expr} {ft : DT} {st : Stmt} {sts sa sb body : List Stmt} {g1 g2 : DS} {pos : Pos} {fj : DJ} {g : DG} {hh : Nat}
theorem x_of (h : S3 K (fun _ : Unit => Y.nox) (fun _ : Unit => O) st g1) : Sx3 K mg Y E O st g1 := let ⟨t, p, d⟩ := h; ⟨t, PS.nox (p ()), sdx_of (d ())⟩
theorem xs_of (h : Ss3 K (fun _ : Unit => Y.nox) (fun _ : Unit => O) sts g1) : Ssx3 K mg Y E O sts g1 := let ⟨t, p, d⟩ := h; ⟨t, PSs.nox (p ()), sdx_of (d ())⟩
theorem xs_one (h : Sx3 K mg Y E O st g1) : Ssx3 K mg Y E O [st] g1 := let ⟨_, p, d⟩ := h; ⟨_, pss_one p, d⟩
theorem xs_cons (h : Sx3 K mg Y E O st g1) (h' : Ssx3 K mg Y E O sts g2) : Ssx3 K mg Y E O (st :: sts) (seqD g1 g2) := let ⟨_, p, d⟩ := h; let ⟨_, p2, d2⟩ := h'; ⟨_, pss_cons p p2, sdx_seq d d2⟩
theorem x_if (hc : T3 K (fun _ : Unit => Y.nox) (fun _ : Unit => O) c ft) (h : Ssx3 K mg Y E O sa g1) (h' : Ssx3 K mg Y E O sb g2) : Sx3 K mg Y E O (.If c sa sb pos) (ifS ft g1 g2) := let ⟨_, p, d⟩ := hc; let ⟨_, p1, d1⟩ := h; let ⟨_, p2, d2⟩ := h'; ⟨_, ps_if (PT.nox (p ())) p1 p2, sdx_if (d ()) d1 d2⟩
theorem x_for (B : Bdy P w Y E) (hc : Y.calm = true) (hi : J3 K (fun _ : Unit => Y.nox) (fun _ : Unit => O) tg iter fj) (hg : G3 K (fun _ : Unit => Y.nox) hh tg g) (hb : Ssx3 K mg Y E O body g1) (hs : ∀ x, foldedSetIterable iter Y.env x = pure x := by intro _; rfl) : Sx3 K mg Y E O (.For tg iter body [] pos) (forS fj g g1) := by
 obtain ⟨ti, p1, d1⟩ := hi
 obtain ⟨tg', p2, _, d2, _⟩ := hg
 obtain ⟨tb, p3, d3⟩ := hb
 have po : PassesOwn (model Y.prog Y.w) Y.A Y.env Y.xe := by rw [B.xe, B.prog, B.wld]; exact PassesOwn.leaving
 exact ⟨_, ps_for po hc (PI.nox (p1 ())) (PG.nox (p2 ())) p3 hs, sdx_for (d1 ()) (d2 O) d3⟩
theorem x_raise {x : Str} {C f : Addr} {fd : FuncData} {ps ns : List Str} {e : Expr} {es : List Expr} {np cpos : Pos} {fa : DA} (B : Bdy P w Y E) (hc : Y.calm = true) (hP : Y.prog = P) (hw : Y.w = w) (hK : Y.K = K) (hmg : Y.mg = mg) (hbs : Y.base = base) (M : XMk K C f ns) (F : FnOk P w K mg base CX0 k f fd ps (spInit K ns)) (hr : Room (k + 1) Y.A) (hb : Binds K fd ps []) (hz : ns.length ≤ 1000) (hm : mg x = some (.ref C))
   (ha : A3 K (fun _ : Unit => Y.nox) (fun _ : Unit => O) (e :: es) fa) (hg : Gl Y x := by rfl) (hdb : (x == ("__debug__" : Str)) = false := by decide) (he : starEach (e :: es) Y.env = (false, eval e Y.env) :: starEach es Y.env := by rfl) (hpl : (backTo cpos (starEach es Y.env)).any (·.1) = false := by rfl) :
   Sx3 K mg Y E O (.Raise (some (.Call (.Name x np) (e :: es) [] cpos)) none pos) (raiseS x ns fa) := by
 obtain ⟨t, p, d⟩ := ha
 subst hP hw hK hmg hbs
 exact ⟨_, ps_raise B hc M F hr hb hz hg hm (PA.nox (p ())) hdb he hpl, sdx_raise hm (d ())⟩
theorem mk_Ox {x : Str} {N ps : List Str} {n : Nat} {F : List PyData → (R → Prop) → Prop} {φ : Ob → Prop} (T : Top3 K mg x st) (S : FnScope N ps (defScope st)) (hb : ∀ (kV doc pm : Value) (an : Option Addr) (cdv ct : Value) (us : List Value), us.length = ps.length → bindArgs (PySem.W.fnOf x x (defArgs st) (defBody st) (defScope st) .none kV doc pm an cdv ct) ⟨us, []⟩ = pure (ps.zip us)) (hn : ps.length = n)
   (body : ∀ (f : Addr) (cdv : Value) (A : Around) (outer : List Env) (s : Shared) (H : Hp) (E : XK) (O : Ob), φ O → Bdy P w (cxOf (CX1 P w) P w K mg base N x (defScope st) f cdv A outer s H E) E → Ctx3 P w K mg base k (fun _ : Unit => (cxOf (CX1 P w) P w K mg base N x (defScope st) f cdv A outer s H E).nox) →
     ∃ g, Ssx3 K mg (cxOf (CX1 P w) P w K mg base N x (defScope st) f cdv A outer s H E) E O (defBody st) g ∧ ∀ ds Qr, ds.length = n → F ds Qr → g { nx := fun _ => Qr (.o .none), rt := Qr } (dstart N (ds.map .im))) : Def3x P w K mg base (k + 1) x ps (spX K mg φ n F) := by
 obtain ⟨f, fd, Fu, m⟩ := T.ex
 obtain ⟨oc, od, kV, doc, pm, an, cdv, ct, osl, rfl, lk, hcd⟩ := id Fu.ex
 refine ⟨f, _, fn_of lk hcd S (spX_len hn) fun A outer s H vs Q E hr h => ?_, m, Fu.kp, Fu.binds hb⟩
 obtain ⟨O, ds, Qr, ok, hφ, p, hl, is, q, kk, kx⟩ := h
 obtain ⟨g, ⟨t, h1, h2⟩, h3⟩ := body f cdv A outer s H E O hφ ⟨rfl, rfl, rfl, rfl, rfl, rfl⟩ ⟨fun _ => rfl, fun _ => rfl, fun _ => rfl, fun _ => rfl, fun _ => rfl, fun _ => rfl, fun _ => hr, fun _ => rfl⟩
 exact ⟨t, h1, run_Ox h2 ok p is (h3 ds Qr hl q) kk kx⟩
end
end L3
namespace L3
open PySem PySem.Spec PySem.Calls
open PyProof.Rows hiding St
open L2
def DEf : Type := DSt → (R → Prop) → (R → Prop) → Prop
def DAf : Type := DSt → (List PyData → Prop) → (R → Prop) → Prop
def DSf : Type := DEnds → DSt → (R → Prop) → Prop
def splitR (N X : R → Prop) : R → Prop
 | .o (.dict d) => X (.o (.dict d))
 | .o .none => N (.o .none)
 | .o (.bool b) => N (.o (.bool b))
 | .o (.int i) => N (.o (.int i))
 | .o (.str x) => N (.o (.str x))
 | .o (.list l) => N (.o (.list l))
 | .o (.tuple l) => N (.o (.tuple l))
 | .n l => N (.n l)
theorem split_norm {K : PySem.W.Frag} {O : Ob} {H H' : Hp} {v : V} {N X : R → Prop} : ∀ {r : R}, Out K O H H' v r → splitR N X r → N r
 | .o (.dict d), o, h => nomatch (show Is K (unM O) H' v (.dict d) from o)
 | .o .none, _, h => h
 | .o (.bool b), _, h => h
 | .o (.int b), _, h => h
 | .o (.str b), _, h => h
 | .o (.list b), _, h => h
 | .o (.tuple b), _, h => h
 | .n b, _, h => h
def EX (K : PySem.W.Frag) (mg : Str → Option Value) (O : Ob) (H : Hp) (E : XK) (X : R → Prop) : Prop := ∀ H' C dx d, Stp O H H' → XOut K mg O H H' C dx d → X (.o d) → E (.ref C) (some dx) H'
def EDf (K : PySem.W.Frag) (mg : Str → Option Value) (O : Ob) (t : XK → TE) (f : DEf) : Prop :=
 ∀ (E : XK) (σ : St) (H : Hp) (ρ : DSt) (Q : VK) (N X : R → Prop), Seen K O H σ ρ → f ρ N X → (∀ v H' r, Stp O H H' → Out K O H H' v r → N r → Q v H') → EX K mg O H E X → t E σ H Q
def ADf (K : PySem.W.Frag) (mg : Str → Option Value) (O : Ob) (t : XK → TA) (f : DAf) : Prop :=
 ∀ (E : XK) (σ : St) (H : Hp) (ρ : DSt) (Q : List V → Hp → Prop) (N : List PyData → Prop) (X : R → Prop), Seen K O H σ ρ → f ρ N X → (∀ vs H' ds, Stp O H H' → IsAll K (unM O) H' vs ds → N ds → Q vs H') → EX K mg O H E X → t E σ H Q
def SDf (K : PySem.W.Frag) (mg : Str → Option Value) (O : Ob) (t : XK → TS) (g : DSf) : Prop :=
 ∀ (E : XK) (H₀ : Hp) (A : Nat → Addr → Prop) (σ : St) (H : Hp) (ρ : DSt) (D : Ends) (Dd : DEnds) (X : R → Prop), Rep K O H₀ A H σ ρ → g Dd ρ X → Post K O H₀ A H D Dd → EX K mg O H E X → t E D σ H
def calX (n : Nat) (F : List PyData → (R → Prop) → Prop) (g : DA) : DEf := fun ρ N X => g ρ fun ds => ds.length = n ∧ F ds (splitR N X)
def upE (f : DE) : DEf := fun ρ N _ => f ρ N
def upA (f : DA) : DAf := fun ρ N _ => f ρ N
def aConsF (f : DEf) (g : DAf) : DAf := fun ρ N X => f ρ (fun r => g ρ (fun ds => N (r.d :: ds)) X) X
def tupF' (g : DAf) : DEf := fun ρ N X => g ρ (fun ds => ds.length ≤ sizeLine ∧ N (.o (.tuple ds))) X
def asgF (i : Nat) (f : DEf) : DSf := fun Dd ρ X => f ρ (fun r => match r with
 | .o d => flat d = true ∧ Dd.nx (ρ.set i (some (.im d)))
 | .n ds => flats ds = true ∧ Dd.nx (ρ.set i (some (.own ds)))) X
section
variable {K : PySem.W.Frag} {mg : Str → Option Value} {O : Ob} {H₀ H H' : Hp} {A : Nat → Addr → Prop} {σ : St} {ρ : DSt} {E : XK} {X : R → Prop}
theorem EX.stp {H1 : Hp} (ok : O.Ok) (p : O.P H) (s : Stp O H H1) (h : EX K mg O H E X) : EX K mg O H1 E X := fun H' C dx d s' o q => h H' C dx d (s.trans s') (o.ahead ok p s) q
theorem edf_up {t : TE} {f : DE} (h : ED K O t f) : EDf K mg O (fun _ => t) (upE f) := fun _ σ H ρ Q N _ S q k _ => h σ H ρ Q N S q k
theorem edf_call {φ : Ob → Prop} {n : Nat} {F : List PyData → (R → Prop) → Prop} {t : TA} {g : DA} (hφ : φ O) (h : AD K O t g) : EDf K mg O (fun E => tCall (spX K mg φ n F) [] E t) (calX n F g) := fun E σ H ρ Q N X S q k kx => by
 refine h σ H ρ _ _ S q fun vs H1 ds s1 is ⟨hn, q1⟩ => ?_
 rw [List.append_nil]
 refine ⟨O, ds, splitR N X, S.ok, hφ, s1.p S.p, hn, is, q1, fun r qr v H' s2 o2 => k v H' r (s1.trans s2) (o2.ahead S.ok S.p s1) (split_norm o2 qr), fun H' C dx d s2 o2 q2 => kx H' C dx d (s1.trans s2) (o2.ahead S.ok S.p s1) ?_⟩
 obtain ⟨c, ns, xs, es, rfl, _⟩ := o2
 exact q2
theorem adf_nil : ADf K mg O (fun _ => tNil) (upA aNil) := fun _ σ H ρ Q N _ S q k _ => ad_nil σ H ρ Q N S q k
theorem adf_cons {t : XK → TE} {u : XK → TA} {f : DEf} {g : DAf} (h : EDf K mg O t f) (h' : ADf K mg O u g) : ADf K mg O (fun E => tCons (t E) (u E)) (aConsF f g) := fun E σ H ρ Q N X S q k kx => by
 refine h E σ H ρ _ _ _ S q (fun v H1 r s1 o1 q1 => ?_) kx
 refine h' E σ H1 ρ _ _ _ (S.stp s1) q1 (fun vs H2 ds s2 o2 q2 => ?_) (kx.stp S.ok S.p s1)
 exact k (v :: vs) H2 (r.d :: ds) (s1.trans s2) (.cons (Is.stp s2 (fun _ f => f) (fun _ f => f) (o1.is S.ok S.p)) o2) q2
theorem edf_tup {u : XK → TA} {g : DAf} (h : ADf K mg O u g) : EDf K mg O (fun E => tTup (u E)) (tupF' g) := fun E σ H ρ Q N X S q k kx => by
 refine h E σ H ρ _ _ _ S q (fun vs H1 ds s1 o1 ⟨z, q⟩ => ⟨by rw [o1.length]; exact z, fun p hp => ?_⟩) kx
 have s2 : Stp O H1 (upd H1 p (.tup vs)) := .new S.ok hp _
 exact k _ _ (.o (.tuple ds)) (s1.trans s2) (.tuple (.of upd_same) (o1.stp s2 (fun _ f => f) (fun _ f => f))) q
theorem sdf_asg {i : Nat} {t : XK → TE} {f : DEf} (h : EDf K mg O t f) : SDf K mg O (fun E => tAsg (t E) (gName i)) (asgF i f) := fun E H₀ A σ H ρ D Dd X r q P kx => by
 refine h E σ H ρ _ _ _ r.seen q (fun v H1 x s1 o1 q1 => ?_) kx
 cases x with
 | o d =>
   obtain ⟨fl, q1⟩ := q1
   exact P.nx _ _ H1 _ ((r.stp s1).setIm (Is.flat (TupStay.refl H1) o1 fl)) (.setIm s1) q1
 | n ds =>
   obtain ⟨fl, q1⟩ := q1
   obtain ⟨a, xs, rfl, hn, hl, hs⟩ := o1
   exact P.nx _ _ H1 _ (r.setOwn s1 hn hl hs fl) (.setOwn s1 hn) q1
end
end L3
namespace L3
open PySem PySem.Spec PySem.Calls
open PyProof.Rows hiding St
open L2
structure EA where
 le : Addr
 nt : Addr
 nh : Addr
 ns : Addr
 tm : Addr
 np : Addr
 ng : Addr
 nr : Addr
abbrev bmV : List Value := [.type "ValueError", .type "Exception", .type "BaseException", .type "object"]
theorem passV (v : Value) : refuseLoop v "__setattr__" bmV = pure () := by kernel_rfl
structure Init1 (K : PySem.W.Frag) (f : Addr) (fl : Str) : Prop where
 ex : ∃ (qual an0 : Str) (params : Arguments) (scope : Scope) (oc kV doc pm cdv ct : Value) (od an : Option Addr) (osl : Array (Option Value)) (p1 p2 p3 p4 : Pos),
   K.lookup f = some ⟨oc, od, .func (PySem.W.fnOf "__init__" qual params [.Assign [.Attribute (.Name "self" p1) fl p2] (.Name an0 p3) p4] scope .none kV doc pm an cdv ct), osl⟩ ∧ PySem.W.codeIn K cdv qual = true ∧
   FnScope [("self" : Str), an0] [("self" : Str), an0] scope ∧ Vis scope "self" ∧ Vis scope an0 ∧ (an0 == ("__debug__" : Str)) = false ∧ (an0 == ("__classdict__" : Str)) = false ∧
   ∀ us : List Value, us.length = 2 → bindArgs (PySem.W.fnOf "__init__" qual params [.Assign [.Attribute (.Name "self" p1) fl p2] (.Name an0 p3) p4] scope .none kV doc pm an cdv ct) ⟨us, []⟩ = pure (([("self" : Str), an0] : List Str).zip us)
structure Raise1 (K : PySem.W.Frag) (LE C : Addr) (os : List Addr) (fl : Str) : Prop where
 get : XGet K C
 lost : PySem.W.mroIn K C (.ref LE) = some true
 val : PySem.W.kitOne K (.ref C) (.type "ValueError") = some true
 oth : ∀ D ∈ os, PySem.W.kitOne K (.ref C) (.ref D) = some false
 nof : PySem.W.findIn K (.ref C) fl = some none
 init : ∃ f, XMk K C f [fl] ∧ Init1 K f fl
section
variable {P : Program} {w : World} {K : PySem.W.Frag} {mg : Str → Option Value} {base : Heap} {C D LE f : Addr} {os : List Addr} {fl : Str}
def isStrV : Value → Bool
 | .str _ _ => true
 | _ => false
theorem strKeys_of {es : Array DictEntry} (h : (es.toList.all fun e => isStrV e.key) = true) : StrKeys es := fun e he => by
 have := List.all_eq_true.mp h e (Array.mem_toList_iff.mpr he)
 cases z : e.key with
 | str n t => exact ⟨n, t, rfl⟩
 | _ => rw [z] at this; cases this
theorem kit_val {b : Bool} (hm : PySem.W.mroIn K C (.type "ValueError") = some b) : PySem.W.kitOne K (.ref C) (.type "ValueError") = some b := by
 unfold PySem.W.kitOne
 rw [if_neg (show ¬ (Value.ref C == Value.type "ValueError") = true from fun z => nomatch beq_iff_eq.mp z)]
 unfold PySem.W.kitCls
 simp only [show PySem.W.kitMeta "ValueError" = true by decide +kernel, if_true]
 exact hm
theorem init1_ok (I : Init1 K f fl) : ∃ fd ps, FnOk P w K mg base CX0 1 f fd ps (spInit K [fl]) ∧ Binds K fd ps [] := by
 obtain ⟨qual, an0, params, scope, oc, kV, doc, pm, cdv, ct, od, an, osl, p1, p2, p3, p4, lk, hcd, S, v0, v1, d1, d2, hb⟩ := I.ex
 refine ⟨_, [("self" : Str), an0], fn_of lk hcd S (spInit_len rfl) fun A outer s H vs Q E hr h => ?_, .all hb⟩
 obtain ⟨x, C, ys, rfl, hl, hc, hx, hq⟩ := h
 match ys, hl with
 | [y], _ =>
 refine ⟨_, pss_one (ps_fldx (pe_var (i := 0) rfl v0 (by decide) (by decide)) (pe_var (i := 1) rfl v1 d1 d2) rfl), ?_⟩
 exact ⟨y, rfl, .ref x, rfl, x, C, rfl, hc fl List.mem_cons_self, .inl ⟨hx, fun d hd hdx => hq d hd hdx⟩⟩
theorem raise1_mk {N : Addr} {nm q : Str} {bs : List Value} {sn : List Str} {sub : List Value} {ab : Bool} {col : Option Bool} {dd ddL odN : Option Addr} {k0 k1 k2 k3 k5 : Option Value} {c0 ocN : Value} {cdL : ClassData} {slL oslN : Array (Option Value)} {es : Array DictEntry} {ep : Nat}
   (h1 : PySem.W.findIn K (.ref C) "__getattribute__" = some (some (.builtin "BaseException.__getattribute__"))) (h2 : PySem.W.findIn K (.ref C) "__getattr__" = some none) (h3 : PySem.W.mroIn K C (.type "BaseException") = some true) (h4 : PySem.W.mroIn K C (.type "object") = some true)
   (h5 : PySem.W.hasDictIn K C = true) (h6 : PySem.W.findIn K (.ref C) "__class__" = some (some (.builtin "object.__class__"))) (h7 : PySem.W.specialIn K (.builtin "object.__class__") "__get__" = some (some (.builtin "getset_descriptor.__get__"))) (h8 : PySem.W.takesIn K (.builtin "object.__class__") = some true)
   (h9 : PySem.W.mroIn K C (.ref LE) = some true) (h10 : PySem.W.mroIn K C (.type "ValueError") = some true) (h11 : PySem.W.findIn K (.ref C) fl = some none)
   (h12 : K.lookup C = some (excClassObj nm q C N bs (.ref LE :: bmV) true sn sub ab col dd k0 k1 k2 k3 k5 "ValueError.__new__"))
   (h13 : K.lookup LE = some ⟨c0, ddL, .cls cdL, slL⟩) (h14 : K.lookup cdL.ns = some ⟨ocN, odN, .dict es ep, oslN⟩) (h15 : StrKeys es) (h16 : nsFind es "__init__" = none)
   (h17 : PySem.W.findIn K (.ref C) "__init__" = some (some (.ref f))) (h18 : PySem.W.typeIn K (.ref f) = some (.type "function")) (h19 : PySem.W.keepIn K (.ref C) = true) (h20 : PySem.W.findIn K (.ref C) "__setattr__" = some (some (.builtin "object.__setattr__")))
   (h21 : ∀ D ∈ os, PySem.W.kitOne K (.ref C) (.ref D) = some false) (h22 : Init1 K f fl) : Raise1 K LE C os fl := by
 refine ⟨⟨h1, h2, h3, h4, h5, h6, h7, h8⟩, h9, kit_val h10, h21, h11, f, ⟨⟨nm, q, N, bs, _, bmV, sn, sub, ab, col, dd, k0, k1, k2, k3, k5, "ValueError", "ValueError.__new__", "ValueError.__init__", h12, fun h x => ownTail_of x h13 h14 h15 h16 .base, PySem.F.excBase_ValueError⟩, h17, h18, h19, fun n hn => ?_⟩, h22⟩
 rw [List.mem_singleton.mp hn]
 refine ⟨⟨_, by unfold PySem.W.clsIn; rw [h12], rfl, rfl, ?_, fun v => ?_⟩, h20, h11⟩
 · simp [List.contains_cons]
 · rw [refuseLoop_ref, refuseLoop_ref]; exact passV v
theorem init1_mk {qual an0 : Str} {params : Arguments} {scope : Scope} {oc kV doc pm cdv ct : Value} {od an : Option Addr} {osl : Array (Option Value)} {p1 p2 p3 p4 : Pos}
   (i1 : K.lookup f = some ⟨oc, od, .func (PySem.W.fnOf "__init__" qual params [.Assign [.Attribute (.Name "self" p1) fl p2] (.Name an0 p3) p4] scope .none kV doc pm an cdv ct), osl⟩) (i2 : PySem.W.codeIn K cdv qual = true)
   (i3 : FnScope [("self" : Str), an0] [("self" : Str), an0] scope) (i4 : Vis scope "self" ∧ Vis scope an0) (i5 : (an0 == ("__debug__" : Str)) = false ∧ (an0 == ("__classdict__" : Str)) = false)
   (i6 : ∀ us : List Value, us.length = 2 → bindArgs (PySem.W.fnOf "__init__" qual params [.Assign [.Attribute (.Name "self" p1) fl p2] (.Name an0 p3) p4] scope .none kV doc pm an cdv ct) ⟨us, []⟩ = pure (([("self" : Str), an0] : List Str).zip us)) : Init1 K f fl :=
 ⟨qual, an0, params, scope, oc, kV, doc, pm, cdv, ct, od, an, osl, p1, p2, p3, p4, i1, i2, i3, i4.1, i4.2, i5.1, i5.2, i6⟩
theorem no_nil : ∀ D ∈ ([] : List Addr), PySem.W.kitOne K (.ref C) (.ref D) = some false := fun _ h => (List.not_mem_nil h).elim
end
end L3
namespace L3
open PySem PySem.Spec
open PyProof.Rows hiding St
open L2
def PairS (w : World) : List DictEntry → List (Str × Str) → Prop
 | [], [] => True
 | e :: es, kv :: kvs => (e.hash = hashStr w kv.1 ∧ (∃ t, e.key = .str kv.1 t) ∧ ∃ t, e.val = .str kv.2 t) ∧ PairS w es kvs
 | _, _ => False
structure DctIn (K : PySem.W.Frag) (w : World) (x : Str) (kvs : List (Str × Str)) : Prop where
 ex : ∃ (a : Addr) (es : Array DictEntry) (ep : Nat), PySem.W.nsIn K mainGlobals x = some (some (.ref a)) ∧ K.lookup a = some ⟨.type "dict", none, .dict es ep, #[]⟩ ∧ (a == sysModules) = false ∧ PairS w es.toList kvs ∧ (kvs.map (·.1)).Nodup
theorem dctIn_mk {K : PySem.W.Frag} {w : World} {x : Str} {kvs : List (Str × Str)} {a : Addr} {es : Array DictEntry} {ep : Nat} (h1 : PySem.W.nsIn K mainGlobals x = some (some (.ref a))) (h2 : K.lookup a = some ⟨.type "dict", none, .dict es ep, #[]⟩) (h3 : (a == sysModules) = false) (h4 : PairS w es.toList kvs) (h5 : (kvs.map (·.1)).Nodup) : DctIn K w x kvs := ⟨a, es, ep, h1, h2, h3, h4, h5⟩
structure GDct (K : PySem.W.Frag) (w : World) (mg : Str → Option Value) (x : Str) (kvs : List (Str × Str)) : Prop where
 ex : ∃ (a : Addr) (es : Array DictEntry) (ep : Nat), mg x = some (.ref a) ∧ K.lookup a = some ⟨.type "dict", none, .dict es ep, #[]⟩ ∧ (a == sysModules) = false ∧ PairS w es.toList kvs ∧ (kvs.map (·.1)).Nodup
theorem DctIn.glo {K : PySem.W.Frag} {w : World} {x : Str} {kvs : List (Str × Str)} {h : Heap} {mg : Str → Option Value} (T : DctIn K w x kvs) (X : K.In h) (G : h.Ns mainGlobals mg) : GDct K w mg x kvs := by
 obtain ⟨a, es, ep, h1, h2⟩ := T.ex
 exact ⟨a, es, ep, PySem.W.mg_of X G h1, h2⟩
theorem pairS_pairs {P : Program} {w : World} : ∀ {es : List DictEntry} {kvs : List (Str × Str)}, PairS w es kvs → ∃ vs : List (Key × Value), Pairs (mixKind P w) es vs ∧ KV (kvs.map fun kv => ((.inr kv.1 : Key), V.str kv.2)) vs ∧ (∀ e ∈ es, ∃ k, (mixKind P w).is k e.key = true ∧ e.hash = (mixKind P w).hash k)
 | [], [], _ => ⟨[], .nil, (show KV [] [] from .nil), fun _ h => (List.not_mem_nil h).elim⟩
 | [], _ :: _, h => h.elim
 | _ :: _, [], h => h.elim
 | e :: es, kv :: kvs, h => by
   obtain ⟨⟨h1, ⟨t, h2⟩, t', h3⟩, h⟩ := h
   obtain ⟨vs, g1, g2, g3⟩ := pairS_pairs (P := P) h
   have hk : (mixKind P w).is (.inr kv.1) e.key = true := by rw [h2]; exact mixKind_str P w kv.1 t
   refine ⟨(.inr kv.1, .str kv.2 t') :: vs, .cons hk h3 g1, .cons ⟨rfl, t', rfl⟩ g2, fun e' he => ?_⟩
   rcases List.mem_cons.mp he with rfl | he
   · exact ⟨.inr kv.1, hk, h1⟩
   · exact g3 e' he
theorem KV.keys {kvs : List (Key × V)} {vs : List (Key × Value)} (h : KV kvs vs) : vs.map (·.1) = kvs.map (·.1) := by
 induction h with
 | nil => rfl
 | cons q _ ih => rw [List.map_cons, List.map_cons, ih, q.1]
theorem nodup_inr {α β : Type} : ∀ {l : List β}, l.Nodup → (l.map (Sum.inr : β → Sum α β)).Nodup
 | [], _ => .nil
 | a :: l, h => by
   rw [List.map_cons, List.nodup_cons]
   refine ⟨fun m => ?_, nodup_inr (List.nodup_cons.mp h).2⟩
   obtain ⟨b, hb, e⟩ := List.mem_map.mp m
   cases e
   exact (List.nodup_cons.mp h).1 hb
theorem lk_val : ∀ (kvs : List (Str × Str)) (k : Str), valV (kvs.map fun kv => ((.inr kv.1 : Key), V.str kv.2)) (.inr k) = (kvs.lookup k).map V.str
 | [], k => rfl
 | (a, b) :: kvs, k => by
   rw [List.map_cons, List.lookup]
   by_cases e : a = k
   · subst e
     rw [valV_pos rfl, beq_self_eq_true]
     rfl
   · rw [valV_neg (fun z => e (Sum.inr.inj z)), lk_val kvs k, show (k == a) = false from beq_eq_false_iff_ne.mpr fun z => e z.symm]
section
variable {X : Cx} {e : Expr} {x : Str} {pos px : Pos} {te : TE} {kvs : List (Str × Str)}
def tGGet (kvs : List (Str × Str)) (te : TE) : TE := fun σ H Q => te σ H fun y H1 => ∃ k v, y = .str k ∧ kvs.lookup k = some v ∧ Q (.str v) H1
def tGNot (kvs : List (Str × Str)) (te : TE) : TE := fun σ H Q => te σ H fun y H1 => ∃ k, y = .str k ∧ Q (.bl (!(kvs.lookup k).isSome)) H1
theorem gd_of {pins : List (Addr × Obj)} {s : Shared} {σ : St} {H : Hp} (I : Inv X pins σ H s) (G : GDct X.K X.w X.mg x kvs) : ∃ (a : Addr) (vs : List (Key × Value)), X.mg x = some (.ref a) ∧ (a == sysModules) = false ∧ s.heap.DictOf (mixKind X.prog X.w) a vs ∧ KV (kvs.map fun kv => ((.inr kv.1 : Key), V.str kv.2)) vs := by
 obtain ⟨a, es, ep, h1, h2, h3, h4, h5⟩ := G.ex
 obtain ⟨vs, g1, g2, g3⟩ := pairS_pairs (P := X.prog) h4
 refine ⟨a, vs, h1, h3, ⟨_, es, ep, I.kIn a _ h2, ⟨rfl, rfl, rfl⟩, rfl, fun e he => g3 e (Array.mem_toList_iff.mpr he), g1, ?_⟩, g2⟩
 rw [KV.keys g2, List.map_map]
 have : ((fun x : Key × V => x.1) ∘ fun kv : Str × Str => ((.inr kv.1 : Key), V.str kv.2)) = (Sum.inr ∘ fun kv : Str × Str => kv.1) := rfl
 rw [this, ← List.map_map]
 exact nodup_inr h5
theorem pe_gget (hg : Gl X x) (G : GDct X.K X.w X.mg x kvs) (he : PE X e te) (hs : NoSl e) (hd : (x == ("__debug__" : Str)) = false := by decide) : PE X (.Subscript (.Name x px) e pos) (tGGet kvs te) := by
 intro pins s σ H Q I h
 obtain ⟨a, vs, hm, _⟩ := gd_of I G
 refine subD_of PySem.F.slot_dict_getitem.lookup hs (ld_glob I hg hm ?_ hd)
 refine thn (he pins s σ H _ I h) fun iv s2 ⟨y, H2, I2, ry, k, v, ey, lk, q2⟩ => ?_
 subst ey
 obtain ⟨a', vs, hm', hsm, dd, rel⟩ := gd_of I2 G
 rw [hm] at hm'
 cases hm'
 obtain ⟨w', hw, rw'⟩ := RelO.some_of (v := V.str v) (o := valueAt vs (.inr k)) (by have := rel.val (.inr k); rwa [lk_val, lk] at this)
 exact ⟨dd.typeIs, wpAny_getItem_of (kV_is (k := .inr k) ry) dd.mapOf hw ⟨.str v, H2, I2.tok _, rw', q2⟩⟩
theorem pc_gnot (hg : Gl X x) (G : GDct X.K X.w X.mg x kvs) (he : PE X e te) (hd : (x == ("__debug__" : Str)) = false := by decide) : PC X .NotIn e (.Name x px) (tGNot kvs te) := by
 intro pins s σ H Q I h
 refine thn (he pins s σ H _ I h) fun iv s2 ⟨y, H2, I2, ry, k, ey, q2⟩ => ?_
 subst ey
 obtain ⟨a, vs, hm, hsm, dd, rel⟩ := gd_of I2 G
 refine ld_glob I2 hg hm ?_ hd
 refine wpAny_notIn_of (kV_is (k := .inr k) ry) hsm dd.mapOf ?_
 have e1 := (rel.val (.inr k)).isSome_eq
 rw [lk_val, Option.isSome_map] at e1
 rw [← e1]
 exact ⟨.bl (!(kvs.lookup k).isSome), H2, I2.tok _, rfl, q2⟩
end
def ggD (kvs : List (Str × Str)) (f : DE) : DE := fun ρ Q => f ρ fun r => ∃ k v, r.d = .str k ∧ kvs.lookup k = some v ∧ Q (.o (.str v))
def gnD (kvs : List (Str × Str)) (f : DE) : DT := fun ρ Q => f ρ fun r => ∃ k, r.d = .str k ∧ Q (!(kvs.lookup k).isSome)
section
variable {K : PySem.W.Frag} {O : Ob} {kvs : List (Str × Str)} {t : TE} {f : DE}
theorem ed_gget (h : ED K O t f) : ED K O (tGGet kvs t) (ggD kvs f) := fun σ H ρ Q Qd S hf k => by
 refine h σ H ρ _ _ S hf fun v H1 r s1 o1 ⟨x, y, e, l, q⟩ => ?_
 have i := o1.is S.ok S.p
 rw [e] at i
 cases i
 exact ⟨x, y, rfl, l, k _ H1 (.o (.str y)) s1 (Is.str y) q⟩
theorem td_gnot (h : ED K O t f) : TD K O (tB (tGNot kvs t)) (gnD kvs f) := fun σ H ρ Q Qd S hf k => by
 refine h σ H ρ _ _ S hf fun v H1 r s1 o1 ⟨x, e, q⟩ => ?_
 have i := o1.is S.ok S.p
 rw [e] at i
 cases i
 exact ⟨x, rfl, _, rfl, k _ H1 s1 q⟩
end
section
variable {ι κ : Type} {P : Program} {w : World} {K : PySem.W.Frag} {mg : Str → Option Value} {base : Heap} {k : Nat} {X : ι → Cx} {O : κ → Ob} {a : Expr} {fa : DE} {x : Str} {pos px : Pos} {d : PyData} {kvs : List (Str × Str)}
theorem e_gget (C : Ctx3 P w K mg base k X) (G : GDct K w mg x kvs) (ha : E3 K X O a fa) (hg : ∀ i, Gl (X i) x := by intro i; rfl) (hs : NoSl a := by intro _ _; rfl) (hd : (x == ("__debug__" : Str)) = false := by decide) : E3 K X O (.Subscript (.Name x px) a pos) (ggD kvs fa) := let ⟨_, p, d1⟩ := ha;
 ⟨_, fun i => pe_gget (hg i) (by rw [C.hK, C.hw, C.hmg]; exact G) (p i) hs hd, fun j => ed_gget (d1 j)⟩
theorem t_gnot (C : Ctx3 P w K mg base k X) (G : GDct K w mg x kvs) (ha : E3 K X O a fa) (hg : ∀ i, Gl (X i) x := by intro i; rfl) (hd : (x == ("__debug__" : Str)) = false := by decide) (hm : behindInMarks .NotIn (.Name x px) = false := by rfl) : T3 K X O (.Compare a [.NotIn] [.Name x px] pos) (gnD kvs fa) := let ⟨_, p, d1⟩ := ha;
 ⟨_, fun i => pt_cmp (pc_gnot (hg i) (by rw [C.hK, C.hw, C.hmg]; exact G) (p i) hd) hm, fun j => td_gnot (d1 j)⟩
end
end L3
namespace L3
open PySem PySem.Spec
open PyProof.Rows hiding St
open L2
def tyD : PyData → String
 | .none => "NoneType"
 | .bool _ => "bool"
 | .int _ => "int"
 | .str _ => "str"
 | .list _ => "list"
 | .tuple _ => "tuple"
 | .dict _ => "dict"
def isKind (d : PyData) (T : String) : Option Bool := match T with
 | "int" => some (match d with | .int _ => true | .bool _ => true | _ => false)
 | "bool" => some (match d with | .bool _ => true | _ => false)
 | "str" => some (match d with | .str _ => true | _ => false)
 | "tuple" => some (match d with | .tuple _ => true | _ => false)
 | "list" => some (match d with | .list _ => true | _ => false)
 | _ => none
theorem kit_kind (K : PySem.W.Frag) {d : PyData} {T : String} {b : Bool} (h : isKind d T = some b) (hd : ∀ kvs, d ≠ .dict kvs) : PySem.W.kitOne K (.type (tyD d)) (.type T) = some b := by
 unfold isKind at h
 split at h
 all_goals first
   | (cases h; cases d <;> first | rfl | exact absurd rfl (hd _))
   | cases h
def tIsI (K : PySem.W.Frag) (T : String) (te : TE) : TE := fun σ H Q => te σ H fun v H1 => ∃ F d b, Is K F H1 v d ∧ isKind d T = some b ∧ Q (.bl b) H1
theorem isinst_data {X : Cx} {pins : List (Addr × Obj)} {σ : St} {H : Hp} {s : Shared} {A : Around} {E : Value → Shared → Prop} {Q : Value → Shared → Prop} {x : V} {u : Value} {F : Addr → Prop} {d : PyData} {T : String} {b : Bool} (I : Inv X pins σ H s) (rx : RelV x u) (is : Is X.K F H x d) (e : isKind d T = some b) (h : ∀ tk, Q (.bool b) { s with toks := tk }) :
   wpAny (model X.prog X.w) A (call (.builtin "isinstance") [u, .type T]) Q E s := by
 cases is with
 | none => exact isinst_ok I rx .non (kit_kind _ e fun _ z => nomatch z) h
 | bool y => exact isinst_ok I rx (.bl y) (kit_kind _ e fun _ z => nomatch z) h
 | int i => exact isinst_ok I rx (.int i) (kit_kind _ e fun _ z => nomatch z) h
 | str y => exact isinst_ok I rx (.str y) (kit_kind _ e fun _ z => nomatch z) h
 | list f q r => exact isinst_ok I rx (.lst q) (kit_kind _ e fun _ z => nomatch z) h
 | @tuple a xs ds q r =>
   cases (show u = Value.ref a from rx)
   obtain ⟨its, _, ⟨o, h1, h2, _⟩, _⟩ := I.tuple q
   exact PySem.W.kia_one PySem.W.kitx_tuple I.kIn ⟨o, h1, h2⟩ (kit_kind X.K (d := .tuple ds) e fun _ z => nomatch z) (fun z => nomatch z) h
theorem pe_isI {X : Cx} {e : Expr} {te : TE} {T : String} {x : Str} {p1 p2 p3 : Pos} (gi : Gl X "isinstance") (mi : X.mg "isinstance" = none) (gT : Gl X x) (mT : X.mg x = none) (hT : bootBuiltins x = some (.type T)) (he : PE X e te) (hn : x ≠ "__name__" := by decide) (hdb : (x == ("__debug__" : Str)) = false := by decide)
   (s1 : starEach [e, .Name x p2] X.env = (false, eval e X.env) :: (false, eval (.Name x p2) X.env) :: starEach [] X.env := by rfl) (s2 : starEach [e, .Name x p2] X.env = (false, eval e X.env) :: starEach [.Name x p2] X.env := by rfl) (s3 : (backTo p3 (starEach [.Name x p2] X.env)).any (·.1) = false := by rfl) :
   PE X (.Call (.Name "isinstance" p1) [e, .Name x p2] [] p3) (tIsI X.K T te) := by
 intro pins s σ H Q I h
 refine wpAny_Call_Name_kw (ld_blt I gi mi (u := .builtin "isinstance") (by decide +kernel) ?_)
 refine PyProof.Rows.callWith_builtin1 ?_ s2 s3
 rw [s1]
 show wpAny _ _ (spliced ((false, eval e X.env) :: (false, eval (.Name x p2) X.env) :: [])) _ _ s
 refine Calls.spliced_cons (thn (he pins s σ H _ I h) fun u s' ⟨y, H1, I1, r1, F, d, b, is, ek, q⟩ => ?_)
 refine Calls.spliced_cons (ld_blt I1 gT mT hT (Calls.spliced_nil ?_) hn hdb)
 exact isinst_data I1 r1 is ek fun tk => ⟨.bl b, H1, I1.tok _, rfl, q⟩
def isID (T : String) (f : DE) : DE := fun ρ Q => f ρ fun r => ∃ b, isKind r.d T = some b ∧ Q (.o (.bool b))
theorem ed_isI {K : PySem.W.Frag} {O : Ob} {T : String} {t : TE} {f : DE} (h : ED K O t f) : ED K O (tIsI K T t) (isID T f) := fun σ H ρ Q Qd S hf k => by
 refine h σ H ρ _ _ S hf fun v H1 r s1 o1 ⟨b, e, q⟩ => ?_
 exact ⟨_, r.d, b, o1.is S.ok S.p, e, k _ H1 (.o (.bool b)) s1 (Is.bool b) q⟩
section
variable {ι κ : Type} {P : Program} {w : World} {K : PySem.W.Frag} {mg : Str → Option Value} {base : Heap} {k : Nat} {X : ι → Cx} {O : κ → Ob} {a : Expr} {fa : DE} {pos p p2 : Pos}
theorem e_isI {x : Str} {T : String} (C : Ctx3 P w K mg base k X) (B : Blt mg) (ha : E3 K X O a fa) (hm : mg x = none) (hT : bootBuiltins x = some (.type T) := by decide +kernel) (hg : ∀ i, Gl (X i) "isinstance" := by intro i; rfl) (hg2 : ∀ i, Gl (X i) x := by intro i; rfl) (hn : x ≠ "__name__" := by decide) (hdb : (x == ("__debug__" : Str)) = false := by decide)
   (s1 : ∀ i, starEach [a, .Name x p2] (X i).env = (false, eval a (X i).env) :: (false, eval (.Name x p2) (X i).env) :: starEach [] (X i).env := by intro i; rfl) (s2 : ∀ i, starEach [a, .Name x p2] (X i).env = (false, eval a (X i).env) :: starEach [.Name x p2] (X i).env := by intro i; rfl) (s3 : ∀ i, (backTo pos (starEach [.Name x p2] (X i).env)).any (·.1) = false := by intro i; rfl) :
   E3 K X O (.Call (.Name "isinstance" p) [a, .Name x p2] [] pos) (isID T fa) :=
 let ⟨_, q, d⟩ := ha; ⟨_, fun i => by
   have h := pe_isI (p1 := p) (p3 := pos) (hg i) (by rw [C.hmg]; exact B.isinstance) (hg2 i) (by rw [C.hmg]; exact hm) hT (q i) hn hdb (s1 i) (s2 i) (s3 i)
   rw [C.hK] at h
   exact h, fun j => ed_isI (d j)⟩
end
end L3
namespace L3
open PySem PySem.Spec PySem.Calls
open PyProof.Rows hiding St
open L2
def Ey3 (K : PySem.W.Frag) (mg : Str → Option Value) (Y : Cx) (E : XK) (O : Ob) (e : Expr) (f : DEf) : Prop := ∃ t : XK → TE, PE Y e (t E) ∧ EDf K mg O t f
section
variable {P : Program} {w : World} {K : PySem.W.Frag} {mg : Str → Option Value} {base : Heap} {k : Nat} {Y : Cx} {E : XK} {O : Ob} {a : Expr} {es : List Expr} {ga : DA} {fa : DE} {ff : DEf} {pos p : Pos}
theorem ey_of (h : E3 K (fun _ : Unit => Y.nox) (fun _ : Unit => O) a fa) : Ey3 K mg Y E O a (upE fa) := let ⟨t, p, d⟩ := h; ⟨fun _ => t, PE.nox (p ()), edf_up (d ())⟩
theorem ey_call {k' n : Nat} {x : Str} {ps : List Str} {F : List PyData → (R → Prop) → Prop} (Bd : Bdy P w Y E) (C : Ctx3 P w K mg base k (fun _ : Unit => Y.nox)) (D : Def3x P w K mg base k' x ps (spX K mg (fun _ => True) n F)) (ha : A3 K (fun _ : Unit => Y.nox) (fun _ : Unit => O) (a :: es) ga) (hk : k' ≤ k := by decide) (hg : Gl Y x := by rfl)
   (hdb : (x == ("__debug__" : Str)) = false := by decide) (he : starEach (a :: es) Y.env = (false, eval a Y.env) :: starEach es Y.env := by rfl) (hpl : (backTo pos (starEach es Y.env)).any (·.1) = false := by rfl) : Ey3 K mg Y E O (.Call (.Name x p) (a :: es) [] pos) (calX n F ga) := by
 obtain ⟨f, fd, G, m, kp, bn⟩ := D.ex
 obtain ⟨t, q, d⟩ := ha
 refine ⟨fun E => tCall (spX K mg (fun _ => True) n F) [] E t, ?_, edf_call trivial (d ())⟩
 have hP : Y.prog = P := C.hP ()
 have hw : Y.w = w := C.hw ()
 have hK : Y.K = K := C.hK ()
 have hmg : Y.mg = mg := C.hmg ()
 have hb : Y.base = base := C.hb ()
 have G' : FnOk Y.prog Y.w Y.K Y.mg Y.base (CX1 P w) k f fd ps (spX K mg (fun _ => True) n F) := by rw [hP, hw, hK, hmg, hb]; exact G.mono hk
 exact pe_call G' (C.room ()) hg (by rw [hmg]; exact m) (by rw [hK]; exact kp) (by rw [hK]; exact bn) .nil Bd.pass (PA.nox (q ())) hdb he hpl
theorem ex_post {H₀ H : Hp} {A : Nat → Addr → Prop} {σ : St} {ρ : DSt} {Q : R → Prop} (r : Rep K O H₀ A H σ ρ) (XP : XPost K mg O H₀ E Q) : EX K mg O H E Q := fun H' C dx d s o q => XP H' C dx d (r.st.trans s) (o.ahead r.ok r.p0 r.st) q
def asgX (i : Nat) (f : DEf) : DS := fun Dd ρ => f ρ (fun r => match r with
 | .o d => flat d = true ∧ Dd.nx (ρ.set i (some (.im d)))
 | .n ds => flats ds = true ∧ Dd.nx (ρ.set i (some (.own ds)))) Dd.rt
theorem x_set (n : Nat) {x : Str} {px : Pos} (h : Ey3 K mg Y E O a ff) (hN : Y.N.Nodup := by exact of_decide_eq_true (by kernel_rfl)) (hi : Y.N[n]? = some x := by rfl) (hx : Loc Y.env.scope x := by first | exact Or.inl rfl | exact Or.inr rfl)
   (hs : swapsWith a (some (.Name x px)) pos.line Y.env = pure false := by rfl) (hf : Y.fn x = true ∨ Y.env.scope.names.lookup x = some .local := by first | exact .inl rfl | exact .inr rfl) : Sx3 K mg Y E O (.Assign [.Name x px] a pos) (asgX n ff) :=
 let ⟨t, p, d⟩ := h; ⟨tAsg (t E) (gName n), ps_set hN hi hx p hs hf, fun H₀ A σ H ρ D Dd r q P XP => sdf_asg d E H₀ A σ H ρ D Dd Dd.rt r q P (ex_post r XP)⟩
end
end L3
namespace L3
open PySem PySem.Spec
open PyProof.Rows hiding St
open L2
def noX (F : List PyData → (R → Prop) → Prop) : List PyData → (R → Prop) → Prop := fun ds Q => F ds fun r => (∀ c ns es, r ≠ .o (excD c ns es)) ∧ Q r
theorem toO {P : Program} {w : World} {K : PySem.W.Frag} {mg : Str → Option Value} {base : Heap} {k n : Nat} {x : Str} {ps : List Str} {φ : Ob → Prop} {F : List PyData → (R → Prop) → Prop} (D : Def3x P w K mg base k x ps (spX K mg φ n F)) : Def3 P w K mg base k x ps (spO K φ n (noX F)) := by
 obtain ⟨f, fd, ok, m, kp, b⟩ := D.ex
 refine ⟨f, fd, ⟨fun vs H Q E h => ?_, fun A outer s H args us vs Q E hr he hb hv h => ?_⟩, m, kp, b⟩
 · obtain ⟨O, ds, Qr, h1, h2, h3, h4, h5, h6, h7⟩ := h
   exact ok.len vs H Q (fun _ _ _ => True) ⟨O, ds, _, h1, h2, h3, h4, h5, h6, fun r qr v H' s o => h7 r qr.2 v H' s o, fun _ _ _ _ _ _ _ => trivial⟩
 · obtain ⟨O, ds, Qr, h1, h2, h3, h4, h5, h6, h7⟩ := h
   have := ok.run A outer s H args us vs Q (fun _ _ _ => False) hr he hb hv ⟨O, ds, _, h1, h2, h3, h4, h5, h6, fun r qr v H' s o => h7 r qr.2 v H' s o, fun H' C dx d s o q => ?_⟩
   · refine codeAny_mono this fun r s' z => ?_
     cases r with
     | ok f => cases f <;> exact z
     | error e => obtain ⟨_, _, _, _, _, _, _, _, _, _, _, _, _, _, q⟩ := z; exact q
   · obtain ⟨c, ns, xs, es, e, _⟩ := o
     exact absurd (congrArg R.o e) (q.1 c ns es)
structure ErrS (mg : Str → Option Value) (ea : EA) : Prop where
 nt : mg "NoText" = some (.ref ea.nt)
structure ErrInS (K : PySem.W.Frag) (ea : EA) : Prop where
 nt : PySem.W.nsIn K mainGlobals "NoText" = some (some (.ref ea.nt))
theorem errInS_mk {K : PySem.W.Frag} {le nt : Addr} (h0 : PySem.W.nsIn K mainGlobals "LostError" = some (some (.ref le))) (h : PySem.W.nsIn K mainGlobals "NoText" = some (some (.ref nt))) : ErrInS K ⟨le, nt, nt, nt, nt, nt, nt, nt⟩ := ⟨h⟩
theorem ErrInS.errS {K : PySem.W.Frag} {mg : Str → Option Value} {ea : EA} {h : Heap} (X : K.In h) (G : h.Ns mainGlobals mg) (E : ErrInS K ea) : ErrS mg ea := ⟨PySem.W.mg_of X G E.nt⟩
abbrev RNoTextS (K : PySem.W.Frag) (ea : EA) : Prop := Raise1 K ea.le ea.nt [] "at"
def Ay3 (K : PySem.W.Frag) (mg : Str → Option Value) (Y : Cx) (E : XK) (O : Ob) (es : List Expr) (f : DAf) : Prop := ∃ t : XK → TA, PA Y es (t E) ∧ ADf K mg O t f
section
variable {K : PySem.W.Frag} {mg : Str → Option Value} {Y : Cx} {E : XK} {O : Ob} {a : Expr} {es : List Expr} {ff : DEf} {gf : DAf} {pos : Pos}
theorem ay_nil : Ay3 K mg Y E O [] (upA aNil) := ⟨fun _ => tNil, pa_nil, adf_nil⟩
theorem ay_cons (h : Ey3 K mg Y E O a ff) (h' : Ay3 K mg Y E O es gf) (hs : starEach (a :: es) Y.env = (false, eval a Y.env) :: starEach es Y.env := by rfl) : Ay3 K mg Y E O (a :: es) (aConsF ff gf) := let ⟨t, p, d⟩ := h; let ⟨t', p', d'⟩ := h'; ⟨fun E => tCons (t E) (t' E), pa_cons p p' hs, adf_cons d d'⟩
theorem ey_tup {n : Nat} (h : Ay3 K mg Y E O es gf) : Ey3 K mg Y E O (.Tuple es n pos) (tupF' gf) := let ⟨t, p, d⟩ := h; ⟨fun E => tTup (t E), pe_tup p, edf_tup d⟩
end
end L3
namespace L3
open PySem PySem.Spec PySem.Calls
open PyProof.Rows hiding St
open L2
def pairT (r d : PyData) : PyData := .dict [(.none, r), (.none, d)]
theorem pairT_inj {r d r' d' : PyData} (h : pairT r d = pairT r' d') : r = r' ∧ d = d' := by
 unfold pairT at h
 simp only [PyData.dict.injEq, List.cons.injEq, Prod.mk.injEq, and_true, true_and] at h
 exact h
def isEx (r : R) : Prop := ∃ c ns ds, r = .o (excD c ns ds)
theorem pair_ex {r d : PyData} : ¬ isEx (.o (pairT r d)) := fun ⟨c, ns, ds, e⟩ => by
 unfold pairT excD at e
 simp at e
def cutA (H : Hp) (as : List Addr) : Hp := fun b => if b ∈ as then none else H b
section
variable {H : Hp} {as : List Addr} {b : Addr}
theorem cut_in' (h : b ∈ as) : cutA H as b = none := if_pos h
theorem cut_out (h : b ∉ as) : cutA H as b = H b := if_neg h
theorem cut_some {o : HO} (h : cutA H as b = some o) : b ∉ as ∧ H b = some o := by
 by_cases m : b ∈ as
 · rw [cut_in' m] at h; cases h
 · rw [cut_out m] at h; exact ⟨m, h⟩
end
structure PostT (K : PySem.W.Frag) (O : Ob) (H₀ : Hp) (A : Nat → Addr → Prop) (H : Hp) (i : Nat) (v0 : V) (D : Ends) (Dd : DEnds) : Prop where
 nx : ∀ A' σ' H' ρ', Rep K O H₀ A' H' σ' ρ' → Frm O A H A' H' → Dd.nx ρ' → D.nx σ' H'
 bk : ∀ A' σ' H' ρ', Rep K O H₀ A' H' σ' ρ' → Frm O A H A' H' → Dd.bk ρ' → D.bk σ' H'
 ct : ∀ A' σ' H' ρ', Rep K O H₀ A' H' σ' ρ' → Frm O A H A' H' → Dd.ct ρ' → D.ct σ' H'
 rt : ∀ A' σ' H' ρ' v r d, Rep K O H₀ A' H' σ' ρ' → ρ'[i]? = some (some (.thg (OwnV (fun v => v = v0) d))) → flat r = true → Is K (fun _ => False) H' v r → Dd.rt (.o (pairT r d)) → D.rt v H'
def SDt (K : PySem.W.Frag) (mg : Str → Option Value) (O : Ob) (E : XK) (i : Nat) (v0 : V) (t : TS) (g : DS) : Prop :=
 ∀ (H₀ : Hp) (A : Nat → Addr → Prop) (σ : St) (H : Hp) (ρ : DSt) (D : Ends) (Dd : DEnds), Rep K O H₀ A H σ ρ → g Dd ρ → PostT K O H₀ A H i v0 D Dd → XPost K mg O H₀ E Dd.rt → t D σ H
section
variable {K : PySem.W.Frag} {mg : Str → Option Value} {O : Ob} {E : XK} {i : Nat} {v0 : V}
theorem PostT.frm {H₀ H H1 : Hp} {A A1 : Nat → Addr → Prop} {D : Ends} {Dd : DEnds} (P : PostT K O H₀ A H i v0 D Dd) (f : Frm O A H A1 H1) : PostT K O H₀ A1 H1 i v0 D Dd :=
 ⟨fun A' σ' H' ρ' r' f' q => P.nx A' σ' H' ρ' r' (f.trans f') q, fun A' σ' H' ρ' r' f' q => P.bk A' σ' H' ρ' r' (f.trans f') q, fun A' σ' H' ρ' r' f' q => P.ct A' σ' H' ρ' r' (f.trans f') q, P.rt⟩
def gOf (g : DS) : DS := fun Dd ρ => g { Dd with rt := fun r => isEx r ∧ Dd.rt r } ρ
theorem sdt_of {t : TS} {g : DS} (h : SDx K mg O E t g) : SDt K mg O E i v0 t (gOf g) := fun H₀ A σ H ρ D Dd r q P XP =>
 h H₀ A σ H ρ D _ r q ⟨P.nx, P.bk, P.ct, fun H' v r s o ⟨⟨c, ns, ds, e⟩, _⟩ => by subst e; exact nomatch (show Is K (unM O) H' v (.dict _) from o)⟩ fun H' C dx d s o q => XP H' C dx d s o q.2
theorem sdt_seq {t u : TS} {g k : DS} (h : SDt K mg O E i v0 t g) (h' : SDt K mg O E i v0 u k) : SDt K mg O E i v0 (tSeq t u) (seqD g k) := fun H₀ A σ H ρ D Dd r q P XP =>
 h H₀ A σ H ρ _ _ r q ⟨fun A' σ' H' ρ' r' f q' => h' H₀ A' σ' H' ρ' D Dd r' q' (P.frm f) XP, P.bk, P.ct, P.rt⟩ XP
theorem sdt_if {c : TT} {t u : TS} {fc : DT} {g k : DS} (hc : TD K O c fc) (h : SDt K mg O E i v0 t g) (h' : SDt K mg O E i v0 u k) : SDt K mg O E i v0 (tIfS c t u) (ifS fc g k) := fun H₀ A σ H ρ D Dd r q P XP => by
 refine hc σ H ρ _ _ r.seen q fun b H1 s1 q1 => ?_
 cases b with
 | true => exact h H₀ A σ H1 ρ D Dd (r.stp s1) q1 (P.frm (.stp s1)) XP
 | false => exact h' H₀ A σ H1 ρ D Dd (r.stp s1) q1 (P.frm (.stp s1)) XP
theorem sdt_while {c : TT} {tb : TS} {fc : DT} {gb : DS} (hc : TD K O c fc) (hb : SDt K mg O E i v0 tb gb) : SDt K mg O E i v0 (tWhile c tb) (whileS fc gb) := fun H₀ A σ H ρ D Dd r q P XP => by
 obtain ⟨W, ⟨m0, w0⟩, turn⟩ := q
 refine ⟨fun m σ2 H2 => ∃ A2 ρ2, Rep K O H₀ A2 H2 σ2 ρ2 ∧ Frm O A H A2 H2 ∧ W m ρ2, ⟨m0, A, ρ, r, .refl, w0⟩, ?_⟩
 rintro m σ2 H2 ⟨A2, ρ2, r2, f2, w2⟩
 refine hc σ2 H2 ρ2 _ _ r2.seen (turn m ρ2 w2) fun b H3 s3 q3 => ?_
 have f3 : Frm O A H A2 H3 := f2.trans (.stp s3)
 cases b with
 | true =>
   refine ⟨fun σ' H' => ∃ A' ρ', Rep K O H₀ A' H' σ' ρ' ∧ Frm O A H A' H' ∧ ∃ m', m' < m ∧ W m' ρ', fun σ' H' ⟨A', ρ', x1, x2, m', x3, x4⟩ => ⟨m', x3, A', ρ', x1, x2, x4⟩, ?_⟩
   exact hb H₀ A2 σ2 H3 ρ2 _ _ (r2.stp s3) q3 ⟨fun A' σ' H' ρ' r' f' q' => ⟨A', ρ', r', f3.trans f', q'⟩, fun A' σ' H' ρ' r' f' q' => P.nx A' σ' H' ρ' r' (f3.trans f') q', fun A' σ' H' ρ' r' f' q' => ⟨A', ρ', r', f3.trans f', q'⟩, P.rt⟩ XP
 | false => exact P.nx A2 σ2 H3 ρ2 (r2.stp s3) f3 q3
theorem sdx_while {c : TT} {tb : TS} {fc : DT} {gb : DS} (hc : TD K O c fc) (hb : SDx K mg O E tb gb) : SDx K mg O E (tWhile c tb) (whileS fc gb) := fun H₀ A σ H ρ D Dd r q P XP => by
 obtain ⟨W, ⟨m0, w0⟩, turn⟩ := q
 refine ⟨fun m σ2 H2 => ∃ A2 ρ2, Rep K O H₀ A2 H2 σ2 ρ2 ∧ Frm O A H A2 H2 ∧ W m ρ2, ⟨m0, A, ρ, r, .refl, w0⟩, ?_⟩
 rintro m σ2 H2 ⟨A2, ρ2, r2, f2, w2⟩
 refine hc σ2 H2 ρ2 _ _ r2.seen (turn m ρ2 w2) fun b H3 s3 q3 => ?_
 have f3 : Frm O A H A2 H3 := f2.trans (.stp s3)
 cases b with
 | true =>
   refine ⟨fun σ' H' => ∃ A' ρ', Rep K O H₀ A' H' σ' ρ' ∧ Frm O A H A' H' ∧ ∃ m', m' < m ∧ W m' ρ', fun σ' H' ⟨A', ρ', x1, x2, m', x3, x4⟩ => ⟨m', x3, A', ρ', x1, x2, x4⟩, ?_⟩
   exact hb H₀ A2 σ2 H3 ρ2 _ _ (r2.stp s3) q3 ⟨fun A' σ' H' ρ' r' f' q' => ⟨A', ρ', r', f3.trans f', q'⟩, fun A' σ' H' ρ' r' f' q' => P.nx A' σ' H' ρ' r' (f3.trans f') q', fun A' σ' H' ρ' r' f' q' => ⟨A', ρ', r', f3.trans f', q'⟩, P.rt⟩ XP
 | false => exact P.nx A2 σ2 H3 ρ2 (r2.stp s3) f3 q3
def retT (i : Nat) (v0 : V) (f : DEf) : DS := fun Dd ρ => ∃ d, ρ[i]? = some (some (.thg (OwnV (fun v => v = v0) d))) ∧ f ρ (fun r => flat r.d = true ∧ Dd.rt (.o (pairT r.d d))) Dd.rt
theorem sdt_ret {t : XK → TE} {f : DEf} (h : EDf K mg O t f) : SDt K mg O E i v0 (tRet (t E)) (retT i v0 f) := fun H₀ A σ H ρ D Dd r q P XP => by
 obtain ⟨d, e, q⟩ := q
 refine h E σ H ρ _ _ _ r.seen q (fun v H1 x s1 o1 ⟨fl, q1⟩ => ?_) (ex_post r XP)
 exact P.rt A σ H1 ρ v x.d d (r.stp s1) e fl (Is.flat (TupStay.refl _) (o1.is r.ok r.p) fl) q1
def spT (K : PySem.W.Frag) (mg : Str → Option Value) (n : Nat) (F : List PyData → PyData → (R → Prop) → Prop) : Sp := fun vs H Q E =>
 ∃ (O : Ob) (us : List V) (ds : List PyData) (v0 : V) (d : PyData) (as : List Addr) (Qr : R → Prop), O.Ok ∧ O.P H ∧ vs = us ++ [v0] ∧ ds.length = n ∧ IsAll K (fun _ => False) H us ds ∧ as.Nodup ∧ (∀ a ∈ as, ¬ O.M a) ∧ Ow K H v0 d as ∧ F ds d Qr ∧
   (∀ r d' v H' as', Qr (.o (pairT r d')) → flat r = true → Stp O (cutA H as) H' → Is K (fun _ => False) H' v r → as'.Nodup → (∀ a ∈ as', (a ∈ as ∨ H a = none) ∧ ¬ O.M a) → Ow K H' v0 d' as' → Q v H') ∧ XPost K mg O (cutA H as) E Qr
theorem spT_len {n : Nat} {F : List PyData → PyData → (R → Prop) → Prop} {ps : List Str} (hn : ps.length = n + 1) : ∀ vs H Q E, spT K mg n F vs H Q E → vs.length = ps.length := fun vs H Q E zz => by
 obtain ⟨O, us, ds, v0, d, as, Qr, _, _, e, hl, is, _⟩ := zz
 rw [e, List.length_append, is.length, hl, hn]; rfl
theorem cut_stp {H : Hp} {as : List Addr} (ok : O.Ok) (p : O.P H) (nm : ∀ a ∈ as, ¬ O.M a) : Stp O (cutA H as) H ∧ O.P (cutA H as) :=
 have pc : O.P (cutA H as) := ok.loc H _ (fun b m => cut_out fun z => nm b z m) p
 ⟨⟨fun b o e _ => (cut_some e).2, fun _ => p, fun b u _ e => (cut_some e).2⟩, pc⟩
theorem rep_startT {N : List Str} {H : Hp} {us : List V} {ds : List PyData} {d : PyData} {as : List Addr} (ok : O.Ok) (p : O.P H) (is : IsAll K (fun _ => False) H us ds) (nd : as.Nodup) (nm : ∀ a ∈ as, ¬ O.M a) (ow : Ow K H v0 d as) :
   Rep K O (cutA H as) (fun j b => j = ds.length ∧ b ∈ as) H (L2.start N (us ++ [v0])) (dstart N (ds.map .im ++ [.thg (OwnV (fun v => v = v0) d)])) := by
 obtain ⟨st, pc⟩ := cut_stp ok p nm
 have hl := is.length
 refine ⟨ok, p, pc, st, fun i j a x y => x.1.trans y.1.symm, fun i a x => ?_, fun i r e => ?_, ?_⟩
 · obtain ⟨xs, q⟩ := ow.mem x.2
   exact ⟨cut_in' x.2, ⟨_, q, fun us => ⟨fun z => (by cases z), fun o z => (by cases z)⟩⟩, nm a x.2⟩
 · unfold dstart at e
   unfold L2.start
   rcases Nat.lt_or_ge i ds.length with hi | hi
   · rw [List.getElem?_append_left (by simp; omega), List.getElem?_map, List.getElem?_append_left (by simpa using hi), List.getElem?_map] at e
     cases q : ds[i]? with
     | none => rw [q] at e; cases e
     | some x =>
       rw [q] at e
       cases e
       obtain ⟨v, hv, iv⟩ := is.get q
       refine ⟨v, ?_, iv.weak fun a z => z.elim⟩
       rw [List.getElem?_append_left (by simp; omega), List.getElem?_map, List.getElem?_append_left (by omega), hv]
       rfl
   · rcases Nat.eq_or_lt_of_le hi with h0 | h0
     · subst h0
       rw [List.getElem?_append_left (by simp), List.getElem?_map, List.getElem?_append_right (by simp)] at e
       simp at e
       subst e
       refine ⟨v0, ?_, rfl, as, nd, fun a m => ⟨rfl, m⟩, ow⟩
       rw [List.getElem?_append_left (by simp; omega), List.getElem?_map, List.getElem?_append_right (by omega)]
       simp [hl]
     · rw [List.getElem?_append_right (by simp; omega), List.getElem?_replicate] at e
       split at e <;> cases e
 · unfold dstart L2.start
   simp [hl]
theorem run_T {N : List Str} {t : TS} {g : DS} {H : Hp} {us : List V} {ds : List PyData} {d : PyData} {as : List Addr} {Q : VK} {Qr : R → Prop} (h : SDt K mg O E ds.length v0 t g) (ok : O.Ok) (p : O.P H) (is : IsAll K (fun _ => False) H us ds) (nd : as.Nodup) (nm : ∀ a ∈ as, ¬ O.M a) (ow : Ow K H v0 d as)
   (hg : g { nx := fun _ => False, rt := Qr } (dstart N (ds.map .im ++ [.thg (OwnV (fun v => v = v0) d)])))
   (hQ : ∀ r d' v H' as', Qr (.o (pairT r d')) → flat r = true → Stp O (cutA H as) H' → Is K (fun _ => False) H' v r → as'.Nodup → (∀ a ∈ as', (a ∈ as ∨ H a = none) ∧ ¬ O.M a) → Ow K H' v0 d' as' → Q v H') (hX : XPost K mg O (cutA H as) E Qr) : t { nx := fun _ H' => Q .non H', rt := Q } (L2.start N (us ++ [v0])) H := by
 refine h _ _ _ H _ _ _ (rep_startT ok p is nd nm ow) hg ⟨fun _ _ _ _ _ _ q => q.elim, fun _ _ _ _ _ _ q => q.elim, fun _ _ _ _ _ _ q => q.elim, fun A' σ' H' ρ' v r d' r' e fl iv q => ?_⟩ hX
 obtain ⟨w, hw, pw, as', n', m', o'⟩ := r'.at_ _ _ e
 have pw' : w = v0 := pw
 subst pw'
 refine hQ r d' v H' as' q fl r'.st iv n' (fun a z => ?_) o'
 obtain ⟨h0, _, hm⟩ := r'.own _ a (m' a z)
 refine ⟨?_, hm⟩
 by_cases ma : a ∈ as
 · exact .inl ma
 · rw [cut_out ma] at h0; exact .inr h0
def ADt (K : PySem.W.Frag) (mg : Str → Option Value) (O : Ob) (m : Nat) (u : XK → TA) (g : DAf) : Prop :=
 ∀ (E : XK) (σ : St) (H : Hp) (ρ : DSt) (Q : List V → Hp → Prop) (N : List PyData → Prop) (X : R → Prop) (v0 : V), Seen K O H σ ρ → σ[m]? = some (some v0) → g ρ N X → (∀ vs H' ds, Stp O H H' → IsAll K (unM O) H' vs ds → N ds → Q (vs ++ [v0]) H') → EX K mg O H E X → u E σ H Q
theorem adt_nil {m : Nat} : ADt K mg O m (fun _ => tCons (tVar m) tNil) (upA aNil) := fun E σ H ρ Q N X v0 S hv q k kx => ⟨v0, hv, k [] H [] (.refl _ _) .nil q⟩
theorem adt_cons {m : Nat} {t : XK → TE} {u : XK → TA} {f : DEf} {g : DAf} (h : EDf K mg O t f) (h' : ADt K mg O m u g) : ADt K mg O m (fun E => tCons (t E) (u E)) (aConsF f g) := fun E σ H ρ Q N X v0 S hv q k kx => by
 refine h E σ H ρ _ _ _ S q (fun v H1 r s1 o1 q1 => ?_) kx
 refine h' E σ H1 ρ _ _ _ v0 (S.stp s1) hv q1 (fun vs H2 ds s2 o2 q2 => ?_) (kx.stp S.ok S.p s1)
 exact k (v :: vs) H2 (r.d :: ds) (s1.trans s2) (.cons (Is.stp s2 (fun _ f => f) (fun _ f => f) (o1.is S.ok S.p)) o2) q2
def splitT (N : PyData → PyData → Prop) (X : R → Prop) : R → Prop := fun r => (∀ x d, r = .o (pairT x d) → N x d) ∧ (isEx r → X r)
theorem splitT_ok {N : PyData → PyData → Prop} {X : R → Prop} {x d : PyData} (h : N x d) : splitT N X (.o (pairT x d)) := ⟨fun x' d' e => by
 injection e with e
 obtain ⟨rfl, rfl⟩ := pairT_inj e
 exact h, fun z => absurd z pair_ex⟩
theorem splitT_ex {N : PyData → PyData → Prop} {X : R → Prop} {c : Str} {ns : List Str} {ds : List PyData} (h : X (.o (excD c ns ds))) : splitT N X (.o (excD c ns ds)) := ⟨fun x d e => absurd ⟨c, ns, ds, e.symm⟩ (pair_ex (r := x) (d := d)), fun _ => h⟩
def asgTX (i m n : Nat) (F : List PyData → PyData → (R → Prop) → Prop) (g : DAf) : DS := fun Dd ρ => ∃ d, ρ[m]? = some (some (.thg (OwnT d))) ∧ g ρ (fun ds => ds.length = n ∧ flats ds = true ∧ F ds d (splitT (fun r d' => Dd.nx ((ρ.set m (some (.thg (OwnT d')))).set i (some (.im r)))) Dd.rt)) Dd.rt
theorem sdx_asgT {i m n : Nat} {F : List PyData → PyData → (R → Prop) → Prop} {u : XK → TA} {g : DAf} (h : ADt K mg O m u g) : SDx K mg O E (tAsg (tCall (spT K mg n F) [] E (u E)) (gName i)) (asgTX i m n F g) := fun H₀ A σ H ρ D Dd r q P XP => by
 obtain ⟨d, e, q⟩ := q
 obtain ⟨v0, hv, _, as, nd, am, ow⟩ := r.at_ m _ e
 have nm : ∀ a ∈ as, ¬ O.M a := fun a z => (r.own m a (am a z)).2.2
 refine h E σ H ρ _ _ _ v0 r.seen hv q (fun vs H1 ds s1 is ⟨hn, fl, q1⟩ => ?_) (ex_post r XP)
 have r1 := r.stp s1
 have ow1 : Ow K H1 v0 d as := ow.to s1.t fun a z xs q => s1.s a _ q (nm a z)
 have ia : IsAll K (fun _ => False) H1 vs ds := is.flats (TupStay.refl _) fl
 rw [List.append_nil]
 refine ⟨O, vs, ds, v0, d, as, _, r.ok, r1.p, rfl, hn, ia, nd, nm, ow1, q1, fun x d' v H2 as' qr flx st iv n' m' o' => ?_, ?_⟩
 · have qn := qr.1 x d' rfl
   let Hm : Hp := fun b => if b ∈ as then H1 b else H2 b
   have hm_in : ∀ b, b ∈ as → Hm b = H1 b := fun b z => if_pos z
   have hm_out : ∀ b, b ∉ as → Hm b = H2 b := fun b z => if_neg z
   have p2 : O.P H2 := st.p (cut_stp r.ok r1.p nm).2
   have sm : Stp O H1 Hm := by
     refine ⟨fun b o eb mb => ?_, fun _ => r.ok.loc H2 _ (fun b mb => hm_out b fun z => nm b z mb) p2, fun b o hu eb => ?_⟩
     · by_cases z : b ∈ as
       · rw [hm_in b z]; exact eb
       · rw [hm_out b z]; exact st.s b o (by rw [cut_out z]; exact eb) mb
     · by_cases z : b ∈ as
       · rw [hm_in b z]; exact eb
       · rw [hm_out b z]; exact st.t b o hu (by rw [cut_out z]; exact eb)
   have stay : ∀ b o, Hm b = some o → ¬ A m b → H2 b = some o := fun b o eb z => by
     rw [hm_out b fun y => z (am b y)] at eb; exact eb
   have hW : ∀ b, b ∈ as' → (A m b ∨ H b = Option.none) ∧ ∃ o, H2 b = some o ∧ OwnO o := fun b z => by
     obtain ⟨h1, h2⟩ := m' b z
     obtain ⟨xs, q2⟩ := o'.mem z
     refine ⟨?_, _, q2, fun us => ⟨fun z => (by cases z), fun o z => (by cases z)⟩⟩
     rcases h1 with h1 | h1
     · exact .inl (am b h1)
     · exact .inr (s1.s.free h2 h1)
   have rT := r.setT (i := m) (v := v0) (W := fun b => b ∈ as') (T := OwnT d') (s1.trans sm) stay hW ⟨trivial, as', n', fun a z => z, o'⟩
   rw [set_slot hv] at rT
   have fT : Frm O A H (reg A m fun b => b ∈ as') H2 := Frm.setT (s1.trans sm) stay fun b z => (hW b z).1
   exact P.nx _ _ H2 _ (rT.setIm (i := i) (iv.weak fun a z => z.elim)) (fT.trans (.setIm (.refl _ _))) qn
 · have sc : Stp O H₀ (cutA H1 as) := by
     have o0 : ∀ b o, H₀ b = some o → b ∉ as := fun b o eb z => by rw [(r.own m b (am b z)).1] at eb; cases eb
     refine ⟨fun b o eb mb => ?_, fun _ => (cut_stp r.ok r1.p nm).2, fun b o hu eb => ?_⟩
     · rw [cut_out (o0 b o eb)]; exact r1.st.s b o eb mb
     · rw [cut_out (o0 b o eb)]; exact r1.st.t b o hu eb
   intro H' C dx dd s2 o2 q2
   obtain ⟨c, ns, xs, es, e1, rest⟩ := id o2
   exact XP H' C dx dd (sc.trans s2) (o2.ahead r.ok r.p0 sc) (q2.2 ⟨c, ns, es, by rw [e1]⟩)
end
end L3
namespace L3
open PySem PySem.Spec
open PyProof.Rows hiding St
open L2
def PairI (w : World) : List DictEntry → List (Str × Int) → Prop
 | [], [] => True
 | e :: es, kv :: kvs => (e.hash = hashStr w kv.1 ∧ (∃ t, e.key = .str kv.1 t) ∧ ∃ t, e.val = .int kv.2 t) ∧ PairI w es kvs
 | _, _ => False
structure DctII (K : PySem.W.Frag) (w : World) (x : Str) (kvs : List (Str × Int)) : Prop where
 ex : ∃ (a : Addr) (es : Array DictEntry) (ep : Nat), PySem.W.nsIn K mainGlobals x = some (some (.ref a)) ∧ K.lookup a = some ⟨.type "dict", none, .dict es ep, #[]⟩ ∧ (a == sysModules) = false ∧ PairI w es.toList kvs ∧ (kvs.map (·.1)).Nodup
theorem dctII_mk {K : PySem.W.Frag} {w : World} {x : Str} {kvs : List (Str × Int)} {a : Addr} {es : Array DictEntry} {ep : Nat} (h1 : PySem.W.nsIn K mainGlobals x = some (some (.ref a))) (h2 : K.lookup a = some ⟨.type "dict", none, .dict es ep, #[]⟩) (h3 : (a == sysModules) = false) (h4 : PairI w es.toList kvs) (h5 : (kvs.map (·.1)).Nodup) : DctII K w x kvs := ⟨a, es, ep, h1, h2, h3, h4, h5⟩
structure GDctI (K : PySem.W.Frag) (w : World) (mg : Str → Option Value) (x : Str) (kvs : List (Str × Int)) : Prop where
 ex : ∃ (a : Addr) (es : Array DictEntry) (ep : Nat), mg x = some (.ref a) ∧ K.lookup a = some ⟨.type "dict", none, .dict es ep, #[]⟩ ∧ (a == sysModules) = false ∧ PairI w es.toList kvs ∧ (kvs.map (·.1)).Nodup
theorem DctII.glo {K : PySem.W.Frag} {w : World} {x : Str} {kvs : List (Str × Int)} {h : Heap} {mg : Str → Option Value} (T : DctII K w x kvs) (X : K.In h) (G : h.Ns mainGlobals mg) : GDctI K w mg x kvs := by
 obtain ⟨a, es, ep, h1, h2⟩ := T.ex
 exact ⟨a, es, ep, PySem.W.mg_of X G h1, h2⟩
theorem pairI_pairs {P : Program} {w : World} : ∀ {es : List DictEntry} {kvs : List (Str × Int)}, PairI w es kvs → ∃ vs : List (Key × Value), Pairs (mixKind P w) es vs ∧ KV (kvs.map fun kv => ((.inr kv.1 : Key), V.int kv.2)) vs ∧ (∀ e ∈ es, ∃ k, (mixKind P w).is k e.key = true ∧ e.hash = (mixKind P w).hash k)
 | [], [], _ => ⟨[], .nil, (show KV [] [] from .nil), fun _ h => (List.not_mem_nil h).elim⟩
 | [], _ :: _, h => h.elim
 | _ :: _, [], h => h.elim
 | e :: es, kv :: kvs, h => by
   obtain ⟨⟨h1, ⟨t, h2⟩, t', h3⟩, h⟩ := h
   obtain ⟨vs, g1, g2, g3⟩ := pairI_pairs (P := P) h
   have hk : (mixKind P w).is (.inr kv.1) e.key = true := by rw [h2]; exact mixKind_str P w kv.1 t
   refine ⟨(.inr kv.1, .int kv.2 t') :: vs, .cons hk h3 g1, .cons ⟨rfl, t', rfl⟩ g2, fun e' he => ?_⟩
   rcases List.mem_cons.mp he with rfl | he
   · exact ⟨.inr kv.1, hk, h1⟩
   · exact g3 e' he
theorem lk_valI : ∀ (kvs : List (Str × Int)) (k : Str), valV (kvs.map fun kv => ((.inr kv.1 : Key), V.int kv.2)) (.inr k) = (kvs.lookup k).map V.int
 | [], k => rfl
 | (a, b) :: kvs, k => by
   rw [List.map_cons, List.lookup]
   by_cases e : a = k
   · subst e
     rw [valV_pos rfl, beq_self_eq_true]
     rfl
   · rw [valV_neg (fun z => e (Sum.inr.inj z)), lk_valI kvs k, show (k == a) = false from beq_eq_false_iff_ne.mpr fun z => e z.symm]
section
variable {X : Cx} {e : Expr} {x : Str} {pos px : Pos} {te : TE} {kvs : List (Str × Int)}
def tGGetI (kvs : List (Str × Int)) (te : TE) : TE := fun σ H Q => te σ H fun y H1 => ∃ k v, y = .str k ∧ kvs.lookup k = some v ∧ Q (.int v) H1
def tGInI (kvs : List (Str × Int)) (te : TE) : TE := fun σ H Q => te σ H fun y H1 => ∃ k, y = .str k ∧ Q (.bl (kvs.lookup k).isSome) H1
theorem gd_ofI {pins : List (Addr × Obj)} {s : Shared} {σ : St} {H : Hp} (I : Inv X pins σ H s) (G : GDctI X.K X.w X.mg x kvs) : ∃ (a : Addr) (vs : List (Key × Value)), X.mg x = some (.ref a) ∧ (a == sysModules) = false ∧ s.heap.DictOf (mixKind X.prog X.w) a vs ∧ KV (kvs.map fun kv => ((.inr kv.1 : Key), V.int kv.2)) vs := by
 obtain ⟨a, es, ep, h1, h2, h3, h4, h5⟩ := G.ex
 obtain ⟨vs, g1, g2, g3⟩ := pairI_pairs (P := X.prog) h4
 refine ⟨a, vs, h1, h3, ⟨_, es, ep, I.kIn a _ h2, ⟨rfl, rfl, rfl⟩, rfl, fun e he => g3 e (Array.mem_toList_iff.mpr he), g1, ?_⟩, g2⟩
 rw [KV.keys g2, List.map_map]
 have : ((fun x : Key × V => x.1) ∘ fun kv : Str × Int => ((.inr kv.1 : Key), V.int kv.2)) = (Sum.inr ∘ fun kv : Str × Int => kv.1) := rfl
 rw [this, ← List.map_map]
 exact nodup_inr h5
theorem pe_ggetI (hg : Gl X x) (G : GDctI X.K X.w X.mg x kvs) (he : PE X e te) (hs : NoSl e) (hd : (x == ("__debug__" : Str)) = false := by decide) : PE X (.Subscript (.Name x px) e pos) (tGGetI kvs te) := by
 intro pins s σ H Q I h
 obtain ⟨a, vs, hm, _⟩ := gd_ofI I G
 refine subD_of PySem.F.slot_dict_getitem.lookup hs (ld_glob I hg hm ?_ hd)
 refine thn (he pins s σ H _ I h) fun iv s2 ⟨y, H2, I2, ry, k, v, ey, lk, q2⟩ => ?_
 subst ey
 obtain ⟨a', vs, hm', hsm, dd, rel⟩ := gd_ofI I2 G
 rw [hm] at hm'
 cases hm'
 obtain ⟨w', hw, rw'⟩ := RelO.some_of (v := V.int v) (o := valueAt vs (.inr k)) (by have := rel.val (.inr k); rwa [lk_valI, lk] at this)
 exact ⟨dd.typeIs, wpAny_getItem_of (kV_is (k := .inr k) ry) dd.mapOf hw ⟨.int v, H2, I2.tok _, rw', q2⟩⟩
theorem pc_ginI (hg : Gl X x) (G : GDctI X.K X.w X.mg x kvs) (he : PE X e te) (hd : (x == ("__debug__" : Str)) = false := by decide) : PC X .In e (.Name x px) (tGInI kvs te) := by
 intro pins s σ H Q I h
 refine thn (he pins s σ H _ I h) fun iv s2 ⟨y, H2, I2, ry, k, ey, q2⟩ => ?_
 subst ey
 obtain ⟨a, vs, hm, hsm, dd, rel⟩ := gd_ofI I2 G
 refine ld_glob I2 hg hm ?_ hd
 refine wpAny_in_of (kV_is (k := .inr k) ry) hsm dd.mapOf ?_
 have e1 := (rel.val (.inr k)).isSome_eq
 rw [lk_valI, Option.isSome_map] at e1
 rw [← e1]
 exact ⟨.bl (kvs.lookup k).isSome, H2, I2.tok _, rfl, q2⟩
end
def ggDI (kvs : List (Str × Int)) (f : DE) : DE := fun ρ Q => f ρ fun r => ∃ k v, r.d = .str k ∧ kvs.lookup k = some v ∧ Q (.o (.int v))
def giDI (kvs : List (Str × Int)) (f : DE) : DT := fun ρ Q => f ρ fun r => ∃ k, r.d = .str k ∧ Q (kvs.lookup k).isSome
section
variable {K : PySem.W.Frag} {O : Ob} {kvs : List (Str × Int)} {t : TE} {f : DE}
theorem ed_ggetI (h : ED K O t f) : ED K O (tGGetI kvs t) (ggDI kvs f) := fun σ H ρ Q Qd S hf k => by
 refine h σ H ρ _ _ S hf fun v H1 r s1 o1 ⟨x, y, e, l, q⟩ => ?_
 have i := o1.is S.ok S.p
 rw [e] at i
 cases i
 exact ⟨x, y, rfl, l, k _ H1 (.o (.int y)) s1 (Is.int y) q⟩
theorem td_ginI (h : ED K O t f) : TD K O (tB (tGInI kvs t)) (giDI kvs f) := fun σ H ρ Q Qd S hf k => by
 refine h σ H ρ _ _ S hf fun v H1 r s1 o1 ⟨x, e, q⟩ => ?_
 have i := o1.is S.ok S.p
 rw [e] at i
 cases i
 exact ⟨x, rfl, _, rfl, k _ H1 s1 q⟩
end
section
variable {ι κ : Type} {P : Program} {w : World} {K : PySem.W.Frag} {mg : Str → Option Value} {base : Heap} {k : Nat} {X : ι → Cx} {O : κ → Ob} {a : Expr} {fa : DE} {x : Str} {pos px : Pos} {d : PyData} {kvs : List (Str × Int)}
theorem e_ggetI (C : Ctx3 P w K mg base k X) (G : GDctI K w mg x kvs) (ha : E3 K X O a fa) (hg : ∀ i, Gl (X i) x := by intro i; rfl) (hs : NoSl a := by intro _ _; rfl) (hd : (x == ("__debug__" : Str)) = false := by decide) : E3 K X O (.Subscript (.Name x px) a pos) (ggDI kvs fa) := let ⟨_, p, d1⟩ := ha;
 ⟨_, fun i => pe_ggetI (hg i) (by rw [C.hK, C.hw, C.hmg]; exact G) (p i) hs hd, fun j => ed_ggetI (d1 j)⟩
theorem t_ginI (C : Ctx3 P w K mg base k X) (G : GDctI K w mg x kvs) (ha : E3 K X O a fa) (hg : ∀ i, Gl (X i) x := by intro i; rfl) (hd : (x == ("__debug__" : Str)) = false := by decide) (hm : behindInMarks .In (.Name x px) = false := by rfl) : T3 K X O (.Compare a [.In] [.Name x px] pos) (giDI kvs fa) := let ⟨_, p, d1⟩ := ha;
 ⟨_, fun i => pt_cmp (pc_ginI (hg i) (by rw [C.hK, C.hw, C.hmg]; exact G) (p i) hd) hm, fun j => td_ginI (d1 j)⟩
end
end L3
namespace L3
open PySem PySem.Spec PySem.Calls
open PyProof.Rows hiding St
open L2
section
variable {K : PySem.W.Frag} {O : Ob} {H₀ H H' : Hp} {A : Nat → Addr → Prop} {σ : St} {ρ : DSt}
def vTrA (i : Nat) : DE := fun ρ Q => ∃ p d, ρ[i]? = some (some (.thg (OwnV p d))) ∧ Q (.o d)
theorem ed_varA {i : Nat} : ED K O (tVar i) (vTrA i) := fun σ H ρ Q Qd S ⟨p, d, e, q⟩ k => ed_varT (p := p) σ H ρ Q Qd S ⟨d, e, q⟩ k
def appTA (i : Nat) (fl : DL) (fe : DOw) : DS := fun Dd ρ => ∃ pp, appTr i fl fe pp Dd ρ
theorem sd_appA {i : Nat} {tr te : TE} {fl : DL} {fe : DOw} (hl : LocE K O i tr fl) (he : EOw K O te fe) : SD K O (tDrop (tBM K "list" rAppend tr (tCons te tNil))) (appTA i fl fe) := fun H₀ A σ H ρ D Dd r ⟨pp, q⟩ P => sd_appT (pp := pp) hl he H₀ A σ H ρ D Dd r q P
theorem OwAll.split : ∀ {vs : List V} {ds es : List PyData} {as : List Addr}, OwAll K H vs (ds ++ es) as → ∃ v1 v2 a1 a2, vs = v1 ++ v2 ∧ as = a1 ++ a2 ∧ OwAll K H v1 ds a1 ∧ OwAll K H v2 es a2
 | _, [], _, as, h => ⟨[], _, [], as, rfl, rfl, .nil, h⟩
 | _, d :: ds, _, _, .cons r t => by
   obtain ⟨v1, v2, a1, a2, e1, e2, h1, h2⟩ := OwAll.split t
   exact ⟨_ :: v1, v2, _ ++ a1, a2, by rw [e1]; rfl, by rw [e2, List.append_assoc], .cons r h1, h2⟩
theorem OwAll.noA : ∀ {vs : List V} {ds : List PyData} {as : List Addr}, L3.flats ds = true → OwAll K H vs ds as → as = [] ∧ IsAll K (fun _ => False) H vs ds
 | _, _, _, _, .nil => ⟨rfl, .nil⟩
 | _, _, _, f, .cons (as := as) r t => by
   rw [L3.flats, Bool.and_eq_true] at f
   obtain ⟨e, i⟩ := OwAll.noA f.2 t
   cases r with
   | leaf f' i' => exact ⟨by rw [e]; rfl, .cons i' i⟩
   | list q r => exact absurd f.1 flat_list
   | @tuple a0 xs0 ds0 as0 q r =>
     have f1 : L3.flats ds0 = true := by have := f.1; rw [flat] at this; exact this
     obtain ⟨e1, i1⟩ := OwAll.noA f1 r
     exact ⟨by rw [e, e1]; rfl, .cons (.tuple (.of q) i1) i⟩
abbrev rTupOf (K : PySem.W.Frag) : List V → Hp → VK → Prop := fun xs H Q => ∃ p ys, xs = [.ref p] ∧ ((SqL K H p ys ∧ ∀ l, H l = none → Q (.ref l) (upd H l (.tup ys))) ∨ (SqT K H p ys ∧ Q (.ref p) H))
def popT (n m : Nat) : DS := fun Dd ρ => ∃ pp ds es, ρ[m]? = some (some (.thg (OwnV pp (.list (ds ++ [.list es]))))) ∧ flats es = true ∧ Dd.nx ((ρ.set m (some (.thg (OwnV pp (.list ds))))).set n (some (.im (.tuple es))))
theorem sd_popT {n m : Nat} : SD K O (tAsg (tCB (rTupOf K) (tCons (tBM0 K "list" rPop (tVar m)) tNil)) (gName n)) (popT n m) := fun H₀ A σ H ρ D Dd r q P => by
 obtain ⟨pp, ds, es, e, fs, q⟩ := q
 obtain ⟨v0, hv, pv, as, nd, am, ow⟩ := r.at_ m _ e
 cases ow with
 | leaf f _ => exact absurd f flat_list
 | @list a xs _ as' hx ox =>
   obtain ⟨v1, v2, a1, a2, rfl, rfl, o1, o2⟩ := ox.split
   cases o2 with
   | @cons y vs2 _ _ b1 b2 oy o3 =>
     cases o3
     cases oy with
     | leaf f _ => exact absurd f flat_list
     | @list b zs _ cs hb oz =>
       obtain ⟨rfl, iz⟩ := oz.noA fs
       have na : a ∉ a1 ++ ([b] ++ []) := (List.nodup_cons.mp nd).1
       have n1 := (List.nodup_cons.mp nd).2
       have nab : b ≠ a := fun z => na (by rw [z]; simp)
       have Aa : A m a := am a (by simp)
       have nb1 : b ∉ a1 := fun z => (List.nodup_append.mp n1).2.2 b z b (by simp) rfl
       have hlast : (v1 ++ [V.ref b])[(v1 ++ [V.ref b]).length - 1]? = some (V.ref b) := by simp
       have dl : (v1 ++ [V.ref b]).dropLast = v1 := by simp
       refine ⟨_, hv, .inl ⟨rfl, _, .of hx⟩, a, _, _, rfl, rfl, hx, hlast, ?_⟩
       rw [dl]
       have stay : ∀ c u, H c = some u → ¬ A m c → upd H a (.lst v1) c = some u := fun c u q z => by rw [upd_ne (show c ≠ a from fun w => z (by rw [w]; exact Aa))]; exact q
       have up : ∀ c, c ∈ a1 → ∀ us, H c = some (.lst us) → upd H a (.lst v1) c = some (.lst us) := fun c hc us q => by rw [upd_ne (show c ≠ a from fun w => na (by rw [← w]; simp [hc]))]; exact q
       have ts : TupStay H (upd H a (.lst v1)) := r.tstay stay
       have o1' : OwAll K (upd H a (.lst v1)) v1 ds a1 := o1.to ts fun c hc us q => up c hc us q
       have hW : ∀ c, c ∈ a :: a1 → (A m c ∨ H c = Option.none) ∧ ∃ o, upd H a (.lst v1) c = some o ∧ OwnO o := fun c hc => by
         rcases List.mem_cons.mp hc with rfl | hc'
         · exact ⟨.inl Aa, _, upd_same, .lst⟩
         · obtain ⟨us, z⟩ := o1'.mem hc'
           exact ⟨.inl (am c (by simp [hc'])), _, z, .lst⟩
       have nd1 : (a :: a1).Nodup := List.nodup_cons.mpr ⟨fun z => na (by simp [z]), (List.nodup_append.mp n1).1⟩
       have rT := r.setT (i := m) (v := .ref a) (W := fun c => c ∈ a :: a1) (T := OwnV pp (.list ds)) (.refl _ _) stay hW ⟨pv, a :: a1, nd1, fun c hc => hc, .list upd_same o1'⟩
       rw [set_slot hv] at rT
       have fT : Frm O A H (reg A m fun c => c ∈ a :: a1) (upd H a (.lst v1)) := Frm.setT (.refl _ _) stay fun c hc => (hW c hc).1
       refine ⟨b, zs, rfl, .inl ⟨.inl (.of (by rw [upd_ne nab]; exact hb)), fun l hl => ?_⟩⟩
       have s3 : Stp O (upd H a (.lst v1)) (upd (upd H a (.lst v1)) l (.tup zs)) := .new r.ok hl _
       have rl := rT.stp s3
       have it : Is K (unO O (reg A m fun c => c ∈ a :: a1)) (upd (upd H a (.lst v1)) l (.tup zs)) (.ref l) (.tuple es) := .tuple (.of upd_same) (iz.flats (fun c u hu hc => s3.t c u hu (ts c u hu hc)) fs)
       exact P.nx _ _ _ _ (rl.setIm (i := n) it) ((fT.trans (.stp s3)).trans (.setIm (.refl _ _))) q
end
section
variable {ι κ : Type} {P : Program} {w : World} {K : PySem.W.Frag} {mg : Str → Option Value} {base : Heap} {k : Nat} {X : ι → Cx} {O : κ → Ob} {a b : Expr} {fo : DOw} {fl : DL} {pos : Pos}
theorem e_varA (n : Nat) {x : Str} (hN : ∀ i, (X i).N[n]? = some x := by intro i; rfl) (hv : ∀ i, Vis (X i).env.scope x := by intro i; first | exact Or.inl rfl | exact Or.inr (Or.inl rfl) | exact Or.inr (Or.inr rfl))
   (hd : (x == ("__debug__" : Str)) = false := by decide) (hcd : (x == ("__classdict__" : Str)) = false := by decide) : E3 K X O (.Name x pos) (vTrA n) := ⟨_, fun i => pe_var (hN i) (hv i) hd hcd, fun j => ed_varA⟩
theorem s_appA (n : Nat) {apos cpos : Pos} (C : Ctx3 P w K mg base k X) (hr : Lo3 K X O n a fl) (hb : Eo3 K X O b fo)
   (hbase : ∀ i, attributeBase a "append" (X i).env (eval a (X i).env) = eval a (X i).env := by intro i; rfl)
   (hfew : ∀ i, ((backTo cpos (starEach [b] (X i).env)).all (fun x => !x.1) && (backToKw cpos (keywordEach [] (X i).env)).all (fun x => x.1.isSome) && decide (([b] : List Expr).length + ([] : List Keyword).length + (if ([] : List Keyword).isEmpty then 0 else 1) < 30)) = true := by intro i; rfl)
   (hline : (apos.endLine == cpos.line) = true := by rfl) (hs : ∀ i, starEach [b] (X i).env = [(false, eval b (X i).env)] := by intro i; rfl) (hsw : ∀ i, swapsWith (.Call (.Attribute a "append" apos) [b] [] cpos) Option.none pos.line (X i).env = pure false := by intro i; rfl) :
   S3 K X O (.Expr (.Call (.Attribute a "append" apos) [b] [] cpos) pos) (appTA n fl fo) := let ⟨_, p1, d1⟩ := hr; let ⟨_, p2, d2⟩ := hb;
 ⟨tDrop (tBM K "list" rAppend _ (tCons _ tNil)), fun i => by
   have h := pe_bm (apos := apos) (cpos := cpos) PySem.F.plainAttrs_list PySem.F.slot_list_append PySem.F.type_list_append (mtr_append (X := X i)) (p1 i) (pa_cons (p2 i) pa_nil (hs i)) (hbase i) (hfew i) hline (hs i)
   rw [C.hK] at h
   exact ps_expr h (hsw i), fun j => sd_appA (d1 j) (d2 j)⟩
theorem s_popT (n m : Nat) {x y : Str} {px py apos cpos tpos p : Pos} (C : Ctx3 P w K mg base k X) (B : Blt mg) (hg : ∀ i, Gl (X i) "tuple" := by intro i; rfl) (hN : ∀ i, (X i).N[m]? = some y := by intro i; rfl) (hv : ∀ i, Vis (X i).env.scope y := by intro i; first | exact Or.inl rfl | exact Or.inr (Or.inl rfl) | exact Or.inr (Or.inr rfl)) (hd : (y == ("__debug__" : Str)) = false := by decide) (hcd : (y == ("__classdict__" : Str)) = false := by decide)
   (hbase : ∀ i, attributeBase (.Name y py) "pop" (X i).env (eval (.Name y py) (X i).env) = eval (.Name y py) (X i).env := by intro i; rfl) (hline : (apos.endLine == cpos.line) = true := by rfl)
   (hs1 : ∀ i, starEach [.Call (.Attribute (.Name y py) "pop" apos) [] [] cpos] (X i).env = (false, eval (.Call (.Attribute (.Name y py) "pop" apos) [] [] cpos) (X i).env) :: starEach [] (X i).env := by intro i; rfl)
   (hNn : ∀ i, (X i).N.Nodup := by intro i; exact of_decide_eq_true (by kernel_rfl)) (hi : ∀ i, (X i).N[n]? = some x := by intro i; rfl) (hx : ∀ i, Loc (X i).env.scope x := by intro i; first | exact Or.inl rfl | exact Or.inr rfl)
   (hs : ∀ i, swapsWith (.Call (.Name "tuple" p) [.Call (.Attribute (.Name y py) "pop" apos) [] [] cpos] [] tpos) (some (.Name x px)) pos.line (X i).env = pure false := by intro i; rfl) (hf : ∀ i, (X i).fn x = true ∨ (X i).env.scope.names.lookup x = some .local := by intro i; first | exact .inl rfl | exact .inr rfl) :
   S3 K X O (.Assign [.Name x px] (.Call (.Name "tuple" p) [.Call (.Attribute (.Name y py) "pop" apos) [] [] cpos] [] tpos) pos) (popT n m) :=
 ⟨tAsg (tCB (rTupOf K) (tCons (tBM0 K "list" rPop (tVar m)) tNil)) (gName n), fun i => by
   have h := pe_bm0 (apos := apos) (cpos := cpos) PySem.F.plainAttrs_list PySem.F.slot_list_pop PySem.F.type_list_pop (mtr_pop (X := X i)) (pe_var (pos := py) (hN i) (hv i) hd hcd) (hbase i) hline
   have h2 := pe_callTy (p := p) (pos := tpos) (call_tuple_of (X := X i)) (hg i) (by rw [C.hmg]; exact B.tuple) bt_tuple (pa_cons h pa_nil (hs1 i)) (by decide) (by decide) (hs1 i)
   rw [C.hK] at h2
   exact ps_set (hNn i) (hi i) (hx i) h2 (hs i) (hf i), fun j => sd_popT⟩
end
def St3 (K : PySem.W.Frag) (mg : Str → Option Value) (Y : Cx) (E : XK) (O : Ob) (i : Nat) (s : Stmt) (g : V → DS) : Prop := ∃ t, PS Y s t ∧ ∀ v0, SDt K mg O E i v0 t (g v0)
def Sst3 (K : PySem.W.Frag) (mg : Str → Option Value) (Y : Cx) (E : XK) (O : Ob) (i : Nat) (s : List Stmt) (g : V → DS) : Prop := ∃ t, PSs Y s t ∧ ∀ v0, SDt K mg O E i v0 t (g v0)
section
variable {P : Program} {w : World} {K : PySem.W.Frag} {mg : Str → Option Value} {base : Heap} {k : Nat} {Y : Cx} {E : XK} {O : Ob} {c a : Expr} {es : List Expr} {ft : DT} {ff : DEf} {gf : DAf} {st : Stmt} {sts sa sb body : List Stmt} {g1 : DS} {g h1 h2 : V → DS} {pos p : Pos} {i : Nat}
theorem z_of (h : Sx3 K mg Y E O st g1) : St3 K mg Y E O i st (fun _ => gOf g1) := let ⟨t, p, d⟩ := h; ⟨t, p, fun _ => sdt_of d⟩
theorem zs_one (h : St3 K mg Y E O i st h1) : Sst3 K mg Y E O i [st] h1 := let ⟨_, p, d⟩ := h; ⟨_, pss_one p, d⟩
theorem zs_cons (h : St3 K mg Y E O i st h1) (h' : Sst3 K mg Y E O i sts h2) : Sst3 K mg Y E O i (st :: sts) (fun v => seqD (h1 v) (h2 v)) := let ⟨_, p, d⟩ := h; let ⟨_, p2, d2⟩ := h'; ⟨_, pss_cons p p2, fun v => sdt_seq (d v) (d2 v)⟩
theorem zs_nil : Sst3 K mg Y E O i [] (fun _ Dd ρ => Dd.nx ρ) := ⟨_, pss_nil, fun v H₀ A σ H ρ D Dd r q P XP => P.nx A σ H ρ r .refl q⟩
theorem z_if (hc : T3 K (fun _ : Unit => Y.nox) (fun _ : Unit => O) c ft) (h : Sst3 K mg Y E O i sa h1) (h' : Sst3 K mg Y E O i sb h2) : St3 K mg Y E O i (.If c sa sb pos) (fun v => ifS ft (h1 v) (h2 v)) := let ⟨_, p, d⟩ := hc; let ⟨_, p1, d1⟩ := h; let ⟨_, p2, d2⟩ := h'; ⟨_, ps_if (PT.nox (p ())) p1 p2, fun v => sdt_if (d ()) (d1 v) (d2 v)⟩
theorem z_while (B : Bdy P w Y E) (hc : T3 K (fun _ : Unit => Y.nox) (fun _ : Unit => O) c ft) (hb : Sst3 K mg Y E O i body h1) : St3 K mg Y E O i (.While c body [] pos) (fun v => whileS ft (h1 v)) := by
 obtain ⟨tc, p1, d1⟩ := hc
 obtain ⟨tb, p2, d2⟩ := hb
 have po : PassesOwn (model Y.prog Y.w) Y.A Y.env Y.xe := by rw [B.xe, B.prog, B.wld]; exact PassesOwn.leaving
 exact ⟨_, ps_while po (PT.nox (p1 ())) p2, fun v => sdt_while (d1 ()) (d2 v)⟩
theorem z_ret (h : Ey3 K mg Y E O a ff) : St3 K mg Y E O i (.Return (some a) pos) (fun v => retT i v ff) := let ⟨t, p, d⟩ := h; ⟨tRet (t E), ps_ret p, fun _ => sdt_ret d⟩
theorem mk_T {x : Str} {N ps : List Str} {n : Nat} {F : List PyData → PyData → (R → Prop) → Prop} (T : Top3 K mg x st) (S : FnScope N ps (defScope st)) (hb : ∀ (kV doc pm : Value) (an : Option Addr) (cdv ct : Value) (us : List Value), us.length = ps.length → bindArgs (PySem.W.fnOf x x (defArgs st) (defBody st) (defScope st) .none kV doc pm an cdv ct) ⟨us, []⟩ = pure (ps.zip us)) (hn : ps.length = n + 1)
   (body : ∀ (f : Addr) (cdv : Value) (A : Around) (outer : List Env) (s : Shared) (H : Hp) (E : XK) (O : Ob), Bdy P w (cxOf (CX1 P w) P w K mg base N x (defScope st) f cdv A outer s H E) E → Ctx3 P w K mg base k (fun _ : Unit => (cxOf (CX1 P w) P w K mg base N x (defScope st) f cdv A outer s H E).nox) →
     ∃ g, Sst3 K mg (cxOf (CX1 P w) P w K mg base N x (defScope st) f cdv A outer s H E) E O n (defBody st) g ∧ ∀ v0 ds d Qr, ds.length = n → F ds d Qr → g v0 { nx := fun _ => False, rt := Qr } (dstart N (ds.map .im ++ [.thg (OwnV (fun v => v = v0) d)]))) : Def3x P w K mg base (k + 1) x ps (spT K mg n F) := by
 obtain ⟨f, fd, Fu, m⟩ := T.ex
 obtain ⟨oc, od, kV, doc, pm, an, cdv, ct, osl, rfl, lk, hcd⟩ := id Fu.ex
 refine ⟨f, _, fn_of lk hcd S (spT_len hn) fun A outer s H vs Q E hr h => ?_, m, Fu.kp, Fu.binds hb⟩
 obtain ⟨O, us, ds, v0, d, as, Qr, ok, p, rfl, hl, is, nd, nm, ow, q, kk, kx⟩ := h
 obtain ⟨g, ⟨t, h1, h2⟩, h3⟩ := body f cdv A outer s H E O ⟨rfl, rfl, rfl, rfl, rfl, rfl⟩ ⟨fun _ => rfl, fun _ => rfl, fun _ => rfl, fun _ => rfl, fun _ => rfl, fun _ => rfl, fun _ => hr, fun _ => rfl⟩
 subst hl
 exact ⟨t, h1, run_T (h2 v0) ok p is nd nm ow (h3 v0 ds d Qr rfl q) kk kx⟩
def Ayt3 (K : PySem.W.Frag) (mg : Str → Option Value) (Y : Cx) (E : XK) (O : Ob) (m : Nat) (es : List Expr) (f : DAf) : Prop := ∃ t : XK → TA, PA Y es (t E) ∧ ADt K mg O m t f
theorem at_nil (m : Nat) {y : Str} {py : Pos} (hN : Y.N[m]? = some y := by rfl) (hv : Vis Y.env.scope y := by first | exact Or.inl rfl | exact Or.inr (Or.inl rfl) | exact Or.inr (Or.inr rfl)) (hd : (y == ("__debug__" : Str)) = false := by decide) (hcd : (y == ("__classdict__" : Str)) = false := by decide)
   (hs : starEach [.Name y py] Y.env = (false, eval (.Name y py) Y.env) :: starEach [] Y.env := by rfl) : Ayt3 K mg Y E O m [.Name y py] (upA aNil) := ⟨fun _ => tCons (tVar m) tNil, pa_cons (pe_var hN hv hd hcd) pa_nil hs, adt_nil⟩
theorem at_cons {m : Nat} (h : Ey3 K mg Y E O a ff) (h' : Ayt3 K mg Y E O m es gf) (hs : starEach (a :: es) Y.env = (false, eval a Y.env) :: starEach es Y.env := by rfl) : Ayt3 K mg Y E O m (a :: es) (aConsF ff gf) := let ⟨t, p, d⟩ := h; let ⟨t', p', d'⟩ := h'; ⟨fun E => tCons (t E) (t' E), pa_cons p p' hs, adt_cons d d'⟩
theorem x_setTX (n m : Nat) {k' j : Nat} {x y : Str} {px pc : Pos} {ps : List Str} {F : List PyData → PyData → (R → Prop) → Prop} (Bd : Bdy P w Y E) (C : Ctx3 P w K mg base k (fun _ : Unit => Y.nox)) (D : Def3x P w K mg base k' y ps (spT K mg j F)) (ha : Ayt3 K mg Y E O m (a :: es) gf) (hk : k' ≤ k := by decide) (hg : Gl Y y := by rfl)
   (hdb : (y == ("__debug__" : Str)) = false := by decide) (he : starEach (a :: es) Y.env = (false, eval a Y.env) :: starEach es Y.env := by rfl) (hpl : (backTo pc (starEach es Y.env)).any (·.1) = false := by rfl)
   (hN : Y.N.Nodup := by exact of_decide_eq_true (by kernel_rfl)) (hi : Y.N[n]? = some x := by rfl) (hx : Loc Y.env.scope x := by first | exact Or.inl rfl | exact Or.inr rfl)
   (hs : swapsWith (.Call (.Name y p) (a :: es) [] pc) (some (.Name x px)) pos.line Y.env = pure false := by rfl) (hf : Y.fn x = true ∨ Y.env.scope.names.lookup x = some .local := by first | exact .inl rfl | exact .inr rfl) : Sx3 K mg Y E O (.Assign [.Name x px] (.Call (.Name y p) (a :: es) [] pc) pos) (asgTX n m j F gf) := by
 obtain ⟨f, fd, G, mm, kp, bn⟩ := D.ex
 obtain ⟨t, q, d⟩ := ha
 have hP : Y.prog = P := C.hP ()
 have hw : Y.w = w := C.hw ()
 have hK : Y.K = K := C.hK ()
 have hmg : Y.mg = mg := C.hmg ()
 have hb : Y.base = base := C.hb ()
 have G' : FnOk Y.prog Y.w Y.K Y.mg Y.base (CX1 P w) k f fd ps (spT K mg j F) := by rw [hP, hw, hK, hmg, hb]; exact G.mono hk
 exact ⟨_, ps_set hN hi hx (pe_call G' (C.room ()) hg (by rw [hmg]; exact mm) (by rw [hK]; exact kp) (by rw [hK]; exact bn) .nil Bd.pass q hdb he hpl) hs hf, sdx_asgT d⟩
end
end L3
namespace L3
open PySem PySem.Spec
open PyProof.Rows hiding St
open L2
section
variable {X : Cx}
def tFv (te : TE) : TE := fun σ H Q => te σ H fun v H1 => ∃ x : Str, v = .str x ∧ x.length ≤ sizeLine ∧ Q (.str x) H1
theorem pe_fv {e : Expr} {te : TE} {pos : Pos} (he : PE X e te) : PE X (.FormattedValue e (-1) none pos) (tFv te) := by
 intro pins s σ H Q I h
 refine PyProof.Rows.FormattedValue_plain (thn (he pins s σ H _ I h) fun u s1 ⟨y, H1, I1, r1, x, e, hz, q⟩ => ?_)
 subst e
 obtain ⟨t, rfl⟩ := r1
 exact PyProof.Rows.formatField_str (fun t' tk => ⟨.str x, H1, I1.tok _, ⟨t', rfl⟩, q⟩) hz
def tJ : List TE → Str → TE
 | [], out => fun _ H Q => out.length ≤ sizeLine ∧ Q (.str out) H
 | t :: ts, out => fun σ H Q => t σ H fun v H1 => ∃ y : Str, v = .str y ∧ (out ++ y).length ≤ sizeLine ∧ tJ ts (out ++ y) σ H1 Q
def PJ (X : Cx) (es : List Expr) (ts : List TE) : Prop := ∀ (out : Str) (pins : List (Addr × Obj)) (s : Shared) (σ : St) (H : Hp) (Q : VK), Inv X pins σ H s → tJ ts out σ H Q → wpAny (model X.prog X.w) X.A (joinParts out (evalEach es X.env)) (EP X pins σ Q) X.xe s
theorem pj_nil : PJ X [] [] := fun out pins s σ H Q I h => PyProof.Rows.joinParts_nil ⟨.str out, H, I.tok _, ⟨_, rfl⟩, h.2⟩ h.1
theorem pj_cons {e : Expr} {es : List Expr} {t : TE} {ts : List TE} (he : PE X e t) (hr : PJ X es ts) (hs : evalEach (e :: es) X.env = eval e X.env :: evalEach es X.env := by rfl) : PJ X (e :: es) (t :: ts) := fun out pins s σ H Q I h => by
 rw [hs]
 refine PyProof.Rows.joinParts_cons (thn (he pins s σ H _ I h) fun u s1 ⟨v, H1, I1, r1, y, e, hz, q⟩ => ?_)
 subst e
 obtain ⟨tk, rfl⟩ := r1
 exact ⟨hz, hr _ pins s1 σ H1 Q I1 q⟩
theorem pe_js {e1 e2 : Expr} {es : List Expr} {ts : List TE} {pos : Pos} (h : PJ X (e1 :: e2 :: es) ts) (hs : evalEach (e1 :: e2 :: es) X.env = eval e1 X.env :: eval e2 X.env :: evalEach es X.env := by rfl) : PE X (.JoinedStr (e1 :: e2 :: es) pos) (tJ ts Str.empty) := by
 intro pins s σ H Q I q
 refine PyProof.Rows.JoinedStr_many ?_
 rw [← hs]
 exact h _ pins s σ H Q I q
end
section
variable {K : PySem.W.Frag} {O : Ob}
def fvD (f : DE) : DE := fun ρ Q => f ρ fun r => ∃ x, r.d = .str x ∧ x.length ≤ sizeLine ∧ Q (.o (.str x))
theorem ed_fv {t : TE} {f : DE} (h : ED K O t f) : ED K O (tFv t) (fvD f) := fun σ H ρ Q Qd S hf k => by
 refine h σ H ρ _ _ S hf fun v H1 r s1 o1 ⟨x, e, hz, q⟩ => ?_
 have i := o1.is S.ok S.p
 rw [e] at i
 cases i
 exact ⟨x, rfl, hz, k _ H1 (.o _) s1 (Is.str _) q⟩
def jD : List DE → Str → DE
 | [], out => fun _ Q => out.length ≤ sizeLine ∧ Q (.o (.str out))
 | f :: fs, out => fun ρ Q => f ρ fun r => ∃ y, r.d = .str y ∧ (out ++ y).length ≤ sizeLine ∧ jD fs (out ++ y) ρ Q
inductive JDs (K : PySem.W.Frag) (O : Ob) : List TE → List DE → Prop
 | nil : JDs K O [] []
 | cons {t : TE} {f : DE} {ts : List TE} {fs : List DE} : ED K O t f → JDs K O ts fs → JDs K O (t :: ts) (f :: fs)
theorem ed_j {ts : List TE} {fs : List DE} (h : JDs K O ts fs) : ∀ out, ED K O (tJ ts out) (jD fs out) := by
 induction h with
 | nil => exact fun out σ H ρ Q Qd S hf k => ⟨hf.1, k _ H (.o (.str out)) (.refl _ _) (Is.str _) hf.2⟩
 | cons h hr ih =>
   intro out σ H ρ Q Qd S hf k
   refine h σ H ρ _ _ S hf fun v H1 r s1 o1 ⟨y, e, hz, q⟩ => ?_
   have i := o1.is S.ok S.p
   rw [e] at i
   cases i
   exact ⟨y, rfl, hz, ih _ σ H1 ρ _ _ (S.stp s1) q fun v H2 r s2 o2 q2 => k v H2 r (s1.trans s2) (o2.ahead S.ok S.p s1) q2⟩
end
section
variable {ι κ : Type} {P : Program} {w : World} {K : PySem.W.Frag} {mg : Str → Option Value} {base : Heap} {k : Nat} {X : ι → Cx} {O : κ → Ob} {a b : Expr} {fa fb : DE} {pos : Pos} {es : List Expr} {fs : List DE}
theorem e_fv (ha : E3 K X O a fa) : E3 K X O (.FormattedValue a (-1) none pos) (fvD fa) := let ⟨_, p, d⟩ := ha; ⟨_, fun i => pe_fv (p i), fun j => ed_fv (d j)⟩
def Js3 {ι κ : Type} (K : PySem.W.Frag) (X : ι → Cx) (O : κ → Ob) (es : List Expr) (fs : List DE) : Prop := ∃ ts, (∀ i, PJ (X i) es ts) ∧ ∀ j, JDs K (O j) ts fs
theorem js_nil : Js3 K X O [] [] := ⟨[], fun i => pj_nil, fun j => .nil⟩
theorem js_cons (ha : E3 K X O a fa) (hr : Js3 K X O es fs) (hs : ∀ i, evalEach (a :: es) (X i).env = eval a (X i).env :: evalEach es (X i).env := by intro i; rfl) : Js3 K X O (a :: es) (fa :: fs) := let ⟨_, p, d⟩ := ha; let ⟨_, p2, d2⟩ := hr; ⟨_, fun i => pj_cons (p i) (p2 i) (hs i), fun j => .cons (d j) (d2 j)⟩
theorem e_fs (h : Js3 K X O (a :: b :: es) fs) (hs : ∀ i, evalEach (a :: b :: es) (X i).env = eval a (X i).env :: eval b (X i).env :: evalEach es (X i).env := by intro i; rfl) : E3 K X O (.JoinedStr (a :: b :: es) pos) (jD fs Str.empty) := let ⟨_, p, d⟩ := h; ⟨_, fun i => pe_js (p i) (hs i), fun j => ed_j (d j) _⟩
end
end L3
namespace L3
open PySem PySem.Spec
open PyProof.Rows hiding St
open L2
abbrev tS (w : List Nat) : PyData := .str (tx w)
theorem lt_one (a b : Nat) : decide (([a] : List Nat) < [b]) = decide (a < b) := by
 by_cases h : a < b
 · rw [decide_eq_true h]
   exact decide_eq_true (List.Lex.rel h)
 · rw [decide_eq_false h]
   refine decide_eq_false fun z => ?_
   cases z with
   | rel z => exact h z
   | cons z => cases z
theorem leS_sg {a b : Nat} : leSF (.str (sg a)) (.str (sg b)) = some (.o (.bool (decide (a ≤ b)))) := by
 show some (R.o (.bool (!decide (([b] : List Nat) < [a])))) = _
 rw [lt_one]
 by_cases h : a ≤ b
 · rw [decide_eq_true h, decide_eq_false (by omega)]; rfl
 · rw [decide_eq_false h, decide_eq_true (by omega)]; rfl
theorem ch_sg {lo c hi : Nat} {i : Nat} {ρ : DSt} {Q : R → Prop} (hi' : ρ[i]? = some (some (.im (.str (sg c))))) (q : Q (.o (.bool (decide (lo ≤ c) && decide (c ≤ hi))))) : chD (fn2 leSF) (fn2 leSF) (cD (.str (sg lo))) (vD i) (cD (.str (sg hi))) ρ Q := by
 refine ⟨_, _, hi', rfl, _, leS_sg, _, rfl, ?_⟩
 by_cases h : lo ≤ c
 · rw [decide_eq_true h, if_pos rfl]
   rw [decide_eq_true h, Bool.true_and] at q
   exact ⟨_, leS_sg, q⟩
 · rw [decide_eq_false h, if_neg Bool.false_ne_true]
   rw [decide_eq_false h, Bool.false_and] at q
   exact q
theorem joinL_flat (c : Nat) (x : List Nat) : ∀ r : List (List Nat), joinL c (x :: r) = x ++ (r.map fun w => c :: w).flatten
 | [] => by simp [joinL]
 | y :: r => by
   rw [joinL_cons (by simp), joinL_flat c y r]
   simp
theorem glued_fold (c : Nat) : ∀ (r : List (List Nat)) (acc : Array Nat), ((r.map tx).foldl (fun acc p => acc ++ (⟨#[c]⟩ : Str).cps ++ p.cps) acc).toList = acc.toList ++ (r.map fun w => c :: w).flatten
 | [], acc => by simp
 | w :: r, acc => by
   rw [List.map_cons, List.foldl_cons, glued_fold c r]
   simp [tx]
theorem jc_tx (c : Nat) (ws : List (List Nat)) : Txt.join ⟨#[c]⟩ (ws.map tx) = tx (joinL c ws) := by
 cases ws with
 | nil => rfl
 | cons x r =>
   refine str_ext ?_
   rw [tx_toList, joinL_flat]
   show ((r.map tx).foldl (fun acc p => acc ++ (⟨#[c]⟩ : Str).cps ++ p.cps) (tx x).cps).toList = _
   rw [glued_fold, tx_toList]
theorem sum_le {B : Nat} : ∀ {ws : List (List Nat)}, (∀ w ∈ ws, w.length ≤ B) → ((ws.map tx).map (·.length)).sum ≤ ws.length * B
 | [], _ => by simp
 | w :: ws, h => by
   have ih := sum_le (B := B) (ws := ws) fun x hx => h x (List.mem_cons_of_mem _ hx)
   have hw := h w List.mem_cons_self
   rw [List.map_cons, List.map_cons, List.sum_cons, List.length_cons, Nat.succ_mul, tx_len]
   omega
theorem join_k {c B : Nat} {ws : List (List Nat)} {Q : R → Prop} (hB : ∀ w ∈ ws, w.length ≤ B) (hz : ws.length * (B + 1) ≤ 16777216) (q : Q (.o (tS (joinL c ws)))) :
   ∃ ys : List Str, PyData.list (ws.map tS) = .list (ys.map .str) ∧ (ys.map (·.length)).sum + ys.length * (⟨#[c]⟩ : Str).length ≤ 16777216 ∧ Q (.o (.str (Txt.join ⟨#[c]⟩ ys))) := by
 refine ⟨ws.map tx, by rw [List.map_map]; rfl, ?_, by rw [jc_tx]; exact q⟩
 have := sum_le hB
 rw [List.length_map]
 have e : (⟨#[c]⟩ : Str).length = 1 := rfl
 rw [e]
 have : ws.length * (B + 1) = ws.length * B + ws.length := Nat.mul_succ _ _
 omega
def joinS (s : List Nat) : List (List Nat) → List Nat
 | [] => []
 | [w] => w
 | w :: y :: r => w ++ (s ++ joinS s (y :: r))
theorem joinS_flat (s : List Nat) (x : List Nat) : ∀ r : List (List Nat), joinS s (x :: r) = x ++ (r.map fun w => s ++ w).flatten
 | [] => by simp [joinS]
 | y :: r => by
   show x ++ (s ++ joinS s (y :: r)) = _
   rw [joinS_flat s y r]
   simp
theorem gluedS_fold (s : List Nat) : ∀ (r : List (List Nat)) (acc : Array Nat), ((r.map tx).foldl (fun acc p => acc ++ (tx s).cps ++ p.cps) acc).toList = acc.toList ++ (r.map fun w => s ++ w).flatten
 | [], acc => by simp
 | w :: r, acc => by
   rw [List.map_cons, List.foldl_cons, gluedS_fold s r]
   simp [tx]
theorem js_tx (s : List Nat) (ws : List (List Nat)) : Txt.join (tx s) (ws.map tx) = tx (joinS s ws) := by
 cases ws with
 | nil => rfl
 | cons x r =>
   refine str_ext ?_
   rw [tx_toList, joinS_flat]
   show ((r.map tx).foldl (fun acc p => acc ++ (tx s).cps ++ p.cps) (tx x).cps).toList = _
   rw [gluedS_fold, tx_toList]
end L3
namespace L3
open PySem PySem.Spec
open PyProof.Rows hiding St
open L2
mutual
def solid : PyData → Bool
 | .none => true
 | .int _ => true
 | .str _ => true
 | .tuple ds => solids ds
 | _ => false
def solids : List PyData → Bool
 | [] => true
 | d :: ds => solid d && solids ds
end
mutual
theorem eqv_solid : ∀ d e : PyData, solid d = true → solid e = true → (PyData.eqv d e = true ↔ d = e)
 | .none, e, _, h => by cases e <;> simp [PyData.eqv, solid] at *
 | .int i, e, _, h => by cases e <;> simp [PyData.eqv, solid] at *
 | .str x, e, _, h => by cases e <;> simp [PyData.eqv, solid] at *
 | .tuple ds, e, h0, h => by
   cases e with
   | tuple es =>
     have := eqv_solids ds es (by simpa [solid] using h0) (by simpa [solid] using h)
     simp only [PyData.eqv]
     rw [this]
     exact ⟨fun z => by rw [z], fun z => by cases z; rfl⟩
   | none => simp [PyData.eqv]
   | int _ => simp [PyData.eqv]
   | str _ => simp [PyData.eqv]
   | bool _ => simp [solid] at h
   | list _ => simp [solid] at h
   | dict _ => simp [solid] at h
 | .bool _, _, h, _ => by simp [solid] at h
 | .list _, _, h, _ => by simp [solid] at h
 | .dict _, _, h, _ => by simp [solid] at h
theorem eqv_solids : ∀ ds es : List PyData, solids ds = true → solids es = true → (PyData.eqvAll ds es = true ↔ ds = es)
 | [], [], _, _ => by simp [PyData.eqvAll]
 | [], _ :: _, _, _ => by simp [PyData.eqvAll]
 | _ :: _, [], _, _ => by simp [PyData.eqvAll]
 | d :: ds, e :: es, h, h' => by
   simp only [solids, Bool.and_eq_true] at h h'
   simp only [PyData.eqvAll, Bool.and_eq_true]
   rw [eqv_solid d e h.1 h'.1, eqv_solids ds es h.2 h'.2]
   simp
end
structure Nice (n b : Nat) (d : PyData) : Prop where
 lay : d.canLay0 = true
 sh : d.showable = true
 sho : d.leavesShort 13 = true
 dep : d.depth ≤ n
 bul : d.bulk ≤ b
 sol : solid d = true
theorem Nice.more {n b n' b' : Nat} {d : PyData} (h : Nice n b d) (hn : n ≤ n') (hb : b ≤ b') : Nice n' b' d := ⟨h.lay, h.sh, h.sho, Nat.le_trans h.dep hn, Nat.le_trans h.bul hb, h.sol⟩
theorem nice_str {x : Str} {b : Nat} (h : PyData.strOk x = true) (hb : x.length ≤ b) : Nice 0 b (.str x) := ⟨h, by simp [PyData.showable], short_str h, Nat.le_refl _, hb, rfl⟩
theorem nice_txt {v : List Nat} {b : Nat} (h : ∀ c ∈ v, c < 1000) (hb : v.length ≤ b) : Nice 0 b (tS v) := nice_str (by
 rw [strOk_iff]
 intro c hc
 rw [tx_toList] at hc
 have := h c hc
 omega) (by rw [tx_len]; exact hb)
theorem nice_nil : Nice 1 0 (.tuple []) := ⟨rfl, by simp [PyData.showable, PyData.showableAll], by simp [PyData.leavesShort, PyData.leavesShortAll], by simp [PyData.depth, PyData.depthAll], Nat.le_refl _, rfl⟩
theorem nice_cons {n b b' : Nat} {d : PyData} {ds : List PyData} (h : Nice n b d) (h' : Nice (n + 1) b' (.tuple ds)) : Nice (n + 1) (b + 1 + b') (.tuple (d :: ds)) := by
 obtain ⟨a1, a2, a3, a4, a5, a6⟩ := h
 obtain ⟨b1, b2, b3, b4, b5, b6⟩ := h'
 simp only [PyData.canLay0, PyData.showable, PyData.leavesShort, PyData.depth, PyData.bulk, solid] at b1 b2 b3 b4 b5 b6
 refine ⟨?_, ?_, ?_, ?_, ?_, ?_⟩
 · simp only [PyData.canLay0, PyData.canLayAll0, a1, b1]; rfl
 · simp only [PyData.showable, PyData.showableAll, a2, b2]; rfl
 · simp only [PyData.leavesShort, PyData.leavesShortAll, a3, b3]; rfl
 · simp only [PyData.depth, PyData.depthAll]; omega
 · simp only [PyData.bulk, PyData.bulkAll]; omega
 · simp only [solid, solids, a6, b6]; rfl
theorem nice_nilN (n : Nat) : Nice (n + 1) 0 (.tuple []) := nice_nil.more (by omega) (Nat.le_refl _)
theorem Nice.okD {n b : Nat} {d : PyData} (h : Nice n b d) (hn : n ≤ 60 := by decide) : L3.okD d = true := by
 unfold L3.okD
 rw [h.lay]
 have := h.dep
 simp
 omega
theorem Nice.repr {n b : Nat} {d : PyData} (h : Nice n b d) (hn : n ≤ 60 := by decide) (hb : b ≤ 1048576 := by decide) : ∃ x, reprF [d] = some (.o (.str x)) ∧ PyData.strOk x = true :=
 repr_ok h.lay h.sh (Nat.le_trans h.dep hn) h.sho (Nat.le_trans h.bul (by have : (2 : Nat) ^ 20 = 1048576 := by decide
                                                                          omega))
theorem eq_nice {n b n' b' : Nat} {neg : Bool} {d e : PyData} (h : Nice n b d) (h' : Nice n' b' e) (hn : n ≤ 60 := by decide) {q : Bool} (hq : q = true ↔ d = e) : eqF neg d e = some (.o (.bool (if neg then !q else q))) := by
 unfold eqF
 rw [if_pos (by rw [h.okD hn, h'.lay]; rfl)]
 have e1 : PyData.eqv d e = q := by
   have := (eqv_solid d e h.sol h'.sol).trans hq.symm
   cases h1 : PyData.eqv d e <;> cases q <;> simp_all
 rw [e1]
theorem idx_lst {ds : List PyData} {i : Nat} {d : PyData} (h : ds[i]? = some d) : idxF (.list ds) (.int (i : Nat)) = some (.o d) := by
 show (atI ds _).map R.o = _
 rw [atI_nat (v := d) h]
 rfl
theorem add_lst {a b : List PyData} (h : a.length + b.length ≤ 16777216) : addF (.list a) (.list b) = some (.n (a ++ b)) := by
 show (if a.length + b.length ≤ sizeLine then some (R.n (a ++ b)) else none) = _
 rw [if_pos (by rw [sizeLine_eq]; exact h)]
end L3
namespace L3
open PySem PySem.Spec
open PyProof.Rows hiding St
open L2
section
variable {K : PySem.W.Frag} {O : Ob}
def popSet (n m : Nat) : DS := fun Dd ρ => ∃ ds d, ρ[m]? = some (some (.own (ds ++ [d]))) ∧ flat d = true ∧ Dd.nx ((ρ.set m (some (.own ds))).set n (some (.im d)))
theorem last_of {F : Addr → Prop} {H : Hp} {xs : List V} {ds : List PyData} {d : PyData} (hs : IsAll K F H xs (ds ++ [d])) : ∃ v, xs[xs.length - 1]? = some v ∧ Is K F H v d ∧ IsAll K F H xs.dropLast ds := by
 have hl := hs.length
 rw [List.length_append] at hl
 obtain ⟨v, hv, iv⟩ := hs.get (i := ds.length) (d := d) (by simp)
 refine ⟨v, by rw [hl]; simpa using hv, iv, ?_⟩
 have := isAll_dropLast hs
 rwa [List.dropLast_concat] at this
theorem sd_popSet {n m : Nat} : SD K O (tAsg (tBM0 K "list" rPop (tVar m)) (gName n)) (popSet n m) := fun H₀ A σ H ρ D Dd r q P => by
 obtain ⟨ds, d, e, fl, q⟩ := q
 obtain ⟨v, hv, a, xs, rfl, ha, hl, hs⟩ := r.at_ m _ e
 obtain ⟨u, hu, iu, hs2⟩ := last_of hs
 refine ⟨_, hv, .inl ⟨rfl, xs, .of hl⟩, a, xs, u, rfl, rfl, hl, hu, ?_⟩
 have r1 := r.change e hv ha hs2
 have ts : TupStay H (upd H a (.lst xs.dropLast)) := fun b o ho hb => by
   rw [upd_ne]
   · exact hb
   · intro z
     subst z
     rw [hl] at hb
     cases hb
     obtain ⟨ys, h1 | ⟨_, h1⟩⟩ := ho <;> cases h1
 exact P.nx _ _ _ _ (r1.setIm (Is.flat ts iu fl)) ((Frm.change ha).trans (.setIm (.refl _ _))) q
end
end L3
namespace L3
open PySem PySem.Spec
open PyProof.Rows hiding St
open L2
section
variable {ι κ : Type} {P : Program} {w : World} {K : PySem.W.Frag} {mg : Str → Option Value} {base : Heap} {k : Nat} {X : ι → Cx} {O : κ → Ob} {a b c : Expr} {fa fb : DE} {pos p : Pos} {es : List Expr} {ga : DA}
theorem pe_popV {X : Cx} {n : Nat} {x : Str} {px apos cpos : Pos} (hN : X.N[n]? = some x) (hv : Vis X.env.scope x) (hd : (x == ("__debug__" : Str)) = false) (hcd : (x == ("__classdict__" : Str)) = false) (hbase : attributeBase (.Name x px) "pop" X.env (eval (.Name x px) X.env) = eval (.Name x px) X.env) (hline : (apos.endLine == cpos.line) = true) :
   PE X (.Call (.Attribute (.Name x px) "pop" apos) [] [] cpos) (tBM0 X.K "list" rPop (tVar n)) := pe_bm0 (apos := apos) (cpos := cpos) PySem.F.plainAttrs_list PySem.F.slot_list_pop PySem.F.type_list_pop (mtr_pop (X := X)) (pe_var (pos := px) hN hv hd hcd) hbase hline
theorem s_setPop (n m : Nat) {x y : Str} {px py apos cpos : Pos} (C : Ctx3 P w K mg base k X) (hM : ∀ i, (X i).N[m]? = some y := by intro i; rfl) (hv : ∀ i, Vis (X i).env.scope y := by intro i; first | exact Or.inl rfl | exact Or.inr (Or.inl rfl) | exact Or.inr (Or.inr rfl)) (hd : (y == ("__debug__" : Str)) = false := by decide) (hcd : (y == ("__classdict__" : Str)) = false := by decide)
   (hbase : ∀ i, attributeBase (.Name y py) "pop" (X i).env (eval (.Name y py) (X i).env) = eval (.Name y py) (X i).env := by intro i; rfl) (hline : (apos.endLine == cpos.line) = true := by rfl)
   (hN : ∀ i, (X i).N.Nodup := by intro i; exact of_decide_eq_true (by kernel_rfl)) (hi : ∀ i, (X i).N[n]? = some x := by intro i; rfl) (hx : ∀ i, Loc (X i).env.scope x := by intro i; first | exact Or.inl rfl | exact Or.inr rfl)
   (hs : ∀ i, swapsWith (.Call (.Attribute (.Name y py) "pop" apos) [] [] cpos) (some (.Name x px)) pos.line (X i).env = pure false := by intro i; rfl) (hf : ∀ i, (X i).fn x = true ∨ (X i).env.scope.names.lookup x = some .local := by intro i; first | exact .inl rfl | exact .inr rfl) :
   S3 K X O (.Assign [.Name x px] (.Call (.Attribute (.Name y py) "pop" apos) [] [] cpos) pos) (popSet n m) :=
 ⟨_, fun i => by
   have h := pe_popV (X := X i) (px := py) (apos := apos) (cpos := cpos) (hM i) (hv i) hd hcd (hbase i) hline
   rw [C.hK] at h
   exact ps_set (hN i) (hi i) (hx i) h (hs i) (hf i), fun j => sd_popSet⟩
end
end L3
namespace L3
open PySem PySem.Spec
open PyProof.Rows hiding St
open L2
theorem eq_self {x : Str} {neg : Bool} (h : PyData.strOk x = true) : eqF neg (.str x) (.str x) = some (.o (.bool (!neg))) := by
 have := eq_nice (neg := neg) (nice_str h (Nat.le_refl _)) (nice_str h (Nat.le_refl _)) (q := true) (hq := ⟨fun _ => rfl, fun _ => rfl⟩)
 rw [this]
 cases neg <;> rfl
end L3
namespace L3
open PySem PySem.Spec
open PyProof.Rows hiding St
open L2
mutual
def solL : PyData → Bool
 | .none => true
 | .int _ => true
 | .str _ => true
 | .tuple ds => solLs ds
 | .list ds => solLs ds
 | _ => false
def solLs : List PyData → Bool
 | [] => true
 | d :: ds => solL d && solLs ds
end
mutual
theorem eqv_solL : ∀ d e : PyData, solL d = true → solL e = true → (PyData.eqv d e = true ↔ d = e)
 | .none, e, _, h => by cases e <;> simp [PyData.eqv, solL] at *
 | .int i, e, _, h => by cases e <;> simp [PyData.eqv, solL] at *
 | .str x, e, _, h => by cases e <;> simp [PyData.eqv, solL] at *
 | .tuple ds, e, h0, h => by
   cases e with
   | tuple es =>
     have := eqv_solLs ds es (by simpa [solL] using h0) (by simpa [solL] using h)
     simp only [PyData.eqv]
     rw [this]
     exact ⟨fun z => by rw [z], fun z => by cases z; rfl⟩
   | none => simp [PyData.eqv]
   | int _ => simp [PyData.eqv]
   | str _ => simp [PyData.eqv]
   | bool _ => simp [solL] at h
   | list _ => simp [PyData.eqv]
   | dict _ => simp [solL] at h
 | .list ds, e, h0, h => by
   cases e with
   | list es =>
     have := eqv_solLs ds es (by simpa [solL] using h0) (by simpa [solL] using h)
     simp only [PyData.eqv]
     rw [this]
     exact ⟨fun z => by rw [z], fun z => by cases z; rfl⟩
   | none => simp [PyData.eqv]
   | int _ => simp [PyData.eqv]
   | str _ => simp [PyData.eqv]
   | bool _ => simp [solL] at h
   | tuple _ => simp [PyData.eqv]
   | dict _ => simp [solL] at h
 | .bool _, _, h, _ => by simp [solL] at h
 | .dict _, _, h, _ => by simp [solL] at h
theorem eqv_solLs : ∀ ds es : List PyData, solLs ds = true → solLs es = true → (PyData.eqvAll ds es = true ↔ ds = es)
 | [], [], _, _ => by simp [PyData.eqvAll]
 | [], _ :: _, _, _ => by simp [PyData.eqvAll]
 | _ :: _, [], _, _ => by simp [PyData.eqvAll]
 | d :: ds, e :: es, h, h' => by
   simp only [solLs, Bool.and_eq_true] at h h'
   simp only [PyData.eqvAll, Bool.and_eq_true]
   rw [eqv_solL d e h.1 h'.1, eqv_solLs ds es h.2 h'.2]
   simp
end
structure Sl (n : Nat) (d : PyData) : Prop where
 lay : d.canLay0 = true
 dep : d.depth ≤ n
 sol : solL d = true
theorem sl_txt {x : Str} (h : PyData.strOk x = true) : Sl 0 (.str x) := ⟨h, Nat.le_refl _, rfl⟩
theorem sl_nil (n : Nat) : Sl (n + 1) (.tuple []) := ⟨rfl, by simp [PyData.depth, PyData.depthAll], rfl⟩
theorem sl_cons {n : Nat} {d : PyData} {ds : List PyData} (h : Sl n d) (h' : Sl (n + 1) (.tuple ds)) : Sl (n + 1) (.tuple (d :: ds)) := by
 obtain ⟨a1, a2, a3⟩ := h
 obtain ⟨b1, b2, b3⟩ := h'
 simp only [PyData.canLay0, PyData.depth, solL] at b1 b2 b3
 refine ⟨?_, ?_, ?_⟩
 · simp only [PyData.canLay0, PyData.canLayAll0, a1, b1]; rfl
 · simp only [PyData.depth, PyData.depthAll]; omega
 · simp only [solL, solLs, a3, b3]; rfl
theorem Sl.okD {n : Nat} {d : PyData} (h : Sl n d) (hn : n ≤ 60 := by decide) : L3.okD d = true := by
 unfold L3.okD
 rw [h.lay]
 have := h.dep
 simp
 omega
theorem solLs_mem : ∀ {l : List PyData}, solLs l = true → ∀ y ∈ l, solL y = true
 | [], _, y, hy => (List.not_mem_nil hy).elim
 | a :: l, hl, y, hy => by
   simp only [solLs, Bool.and_eq_true] at hl
   rcases List.mem_cons.mp hy with z | z
   · rw [z]; exact hl.1
   · exact solLs_mem hl.2 y z
theorem any_sl {n : Nat} {d : PyData} {es : List PyData} (h : Sl n d) (hs : solLs es = true) {q : Bool} (hq : q = true ↔ d ∈ es) : (es.any fun y => PyData.eqv y d) = q := by
 have : (es.any fun y => PyData.eqv y d) = true ↔ q = true := by
   rw [hq, List.any_eq_true]
   constructor
   · rintro ⟨y, hy, e⟩
     rw [← (eqv_solL y d (solLs_mem hs y hy) h.sol).mp e]
     exact hy
   · intro hd
     exact ⟨d, hd, (eqv_solL d d h.sol h.sol).mpr rfl⟩
 exact Bool.eq_iff_iff.mpr this
theorem in_slT {n n' : Nat} {neg : Bool} {d : PyData} {es : List PyData} (h : Sl n d) (h' : Sl n' (.tuple es)) (hn : n ≤ 60 := by decide) {q : Bool} (hq : q = true ↔ d ∈ es) : inF neg d (.tuple es) = some (.o (.bool (if neg then !q else q))) := by
 have e1 := any_sl h (by simpa [solL] using h'.sol) hq
 have l1 : PyData.canLayAll0 es = true := by simpa [PyData.canLay0] using h'.lay
 have e2 : inF neg d (.tuple es) = if (L3.okD d && PyData.canLayAll0 es) = true then some (.o (.bool (if neg then !es.any (fun y => PyData.eqv y d) else es.any fun y => PyData.eqv y d))) else none := by
   cases d <;> rfl
 rw [e2, if_pos (by rw [h.okD hn, l1]; rfl), e1]
end L3
namespace L3
open PySem PySem.Spec
open PyProof.Rows hiding St
open L2
theorem all_id {α : Type} (as : List α) (g : α → Bool) : (if false = true then (as.map g).any id else (as.map g).all id) = as.all g := by rw [if_neg Bool.false_ne_true, List.all_map]; rfl
theorem all_ls {α : Type} (as : List α) (g : α → Bool) : [PyData.list (as.map fun a => .bool (g a))] = [PyData.list ((as.map g).map PyData.bool)] := by rw [List.map_map]; rfl
theorem eqI {i j : Int} : eqF false (.int i) (.int j) = some (.o (.bool (decide (i = j)))) := by rw [eqF_int, if_neg Bool.false_ne_true]
theorem eqS_t {neg : Bool} {x : PySem.Str} (h : PyData.strOk x = true) : eqF neg (.str x) (.str x) = some (.o (.bool (!neg))) := by
 rw [eqF_str h h, beq_self_eq_true]
 cases neg <;> rfl
theorem eqS_f {neg : Bool} {x y : PySem.Str} (h : (PyData.strOk x && PyData.strOk y) = true) (n : (x == y) = false) : eqF neg (.str x) (.str y) = some (.o (.bool neg)) := by
 obtain ⟨a, b⟩ := Bool.and_eq_true_iff.mp h
 rw [eqF_str a b, n]
 cases neg <;> rfl
def strsOf : List PyData → Bool
 | [] => true
 | .str x :: ds => PyData.strOk x && strsOf ds
 | _ => false
def inStrs (x : PySem.Str) : List PyData → Bool
 | [] => false
 | .str y :: ds => x == y || inStrs x ds
 | _ :: ds => inStrs x ds
theorem sl_strs : ∀ {ds : List PyData}, strsOf ds = true → Sl 1 (.tuple ds)
 | [], _ => sl_nil 0
 | .str x :: ds, h => by
   obtain ⟨a, b⟩ := Bool.and_eq_true_iff.mp h
   exact sl_cons (sl_txt a) (sl_strs b)
theorem inStrs_iff {x : PySem.Str} : ∀ {ds : List PyData}, inStrs x ds = true ↔ .str x ∈ ds
 | [] => by simp [inStrs]
 | .str y :: ds => by
   rw [inStrs, Bool.or_eq_true, beq_iff_eq, inStrs_iff (ds := ds), List.mem_cons]
   constructor
   · rintro (rfl | h)
     · exact .inl rfl
     · exact .inr h
   · rintro (h | h)
     · exact .inl (PyData.str.inj h)
     · exact .inr h
 | .none :: ds => by show inStrs x ds = true ↔ _; rw [inStrs_iff (ds := ds)]; simp
 | .int _ :: ds => by show inStrs x ds = true ↔ _; rw [inStrs_iff (ds := ds)]; simp
 | .bool _ :: ds => by show inStrs x ds = true ↔ _; rw [inStrs_iff (ds := ds)]; simp
 | .list _ :: ds => by show inStrs x ds = true ↔ _; rw [inStrs_iff (ds := ds)]; simp
 | .tuple _ :: ds => by show inStrs x ds = true ↔ _; rw [inStrs_iff (ds := ds)]; simp
 | .dict _ :: ds => by show inStrs x ds = true ↔ _; rw [inStrs_iff (ds := ds)]; simp
theorem inS_t {neg : Bool} {x : PySem.Str} {ds : List PyData} (h : (PyData.strOk x && strsOf ds && inStrs x ds) = true) : inF neg (.str x) (.tuple ds) = some (.o (.bool (!neg))) := by
 obtain ⟨h, c⟩ := Bool.and_eq_true_iff.mp h
 obtain ⟨a, b⟩ := Bool.and_eq_true_iff.mp h
 rw [in_slT (sl_txt a) (sl_strs b) (by decide) (q := true) ⟨fun _ => inStrs_iff.mp c, fun _ => rfl⟩]
 cases neg <;> rfl
theorem inS_f {neg : Bool} {x : PySem.Str} {ds : List PyData} (h : (PyData.strOk x && strsOf ds && !inStrs x ds) = true) : inF neg (.str x) (.tuple ds) = some (.o (.bool neg)) := by
 obtain ⟨h, c⟩ := Bool.and_eq_true_iff.mp h
 obtain ⟨a, b⟩ := Bool.and_eq_true_iff.mp h
 rw [in_slT (sl_txt a) (sl_strs b) (by decide) (q := false) ⟨fun z => (Bool.false_ne_true z).elim, fun z => by rw [inStrs_iff.mpr z] at c; cases c⟩]
 cases neg <;> rfl
end L3
namespace L3
open PySem PySem.Spec
open PyProof.Rows hiding St
open L2
def common : List Nat → List Nat → Nat
 | c :: t, d :: s => if c = d then common t s + 1 else 0
 | _, _ => 0
def noText (n : Nat) : R := .o (excD "NoText" ["at"] [.int (n : Nat)])
def behF : List PyData → (R → Prop) → Prop := fun ds Q => ∃ (t s : List Nat) (a : Nat), ds = [.str (tx t), .int (a : Nat), .str (tx s)] ∧ t.length ≤ 100000 ∧ (∀ c ∈ t, c < 1000) ∧ s.length ≤ 1000 ∧ (∀ c ∈ s, c < 1000) ∧ a ≤ 100000 ∧ Q (if common (t.drop a) s = s.length then .o (.int ((a + s.length : Nat) : Int)) else noText (a + common (t.drop a) s))
end L3
namespace L3
open PySem PySem.Spec
open PyProof.Rows hiding St
open L2
theorem common_le : ∀ (t s : List Nat), common t s ≤ s.length
 | [], s => by unfold common; cases s <;> exact Nat.zero_le _
 | _ :: _, [] => by unfold common; exact Nat.zero_le _
 | c :: t, d :: s => by
   unfold common
   split
   · have := common_le t s; rw [List.length_cons]; omega
   · exact Nat.zero_le _
theorem common_at : ∀ (t s : List Nat) (j : Nat) (c : Nat), j ≤ common t s → s[j]? = some c → (t[j]? = some c ∧ j + 1 ≤ common t s) ∨ (t[j]? ≠ some c ∧ common t s = j)
 | [], s, j, c, h, e => by
   have : common [] s = 0 := by unfold common; cases s <;> rfl
   rw [this] at h ⊢
   exact .inr ⟨by simp, by omega⟩
 | _ :: _, [], j, c, h, e => by simp at e
 | x :: t, y :: s, j, c, h, e => by
   unfold common at h ⊢
   by_cases z : x = y
   · rw [if_pos z] at h ⊢
     cases j with
     | zero => cases e; exact .inl ⟨by rw [z]; rfl, by omega⟩
     | succ j =>
       rcases common_at t s j c (by omega) (by simpa using e) with ⟨h1, h2⟩ | ⟨h1, h2⟩
       · exact .inl ⟨by simpa using h1, by omega⟩
       · exact .inr ⟨by simpa using h1, by omega⟩
   · rw [if_neg z] at h ⊢
     have : j = 0 := by omega
     subst this
     cases e
     exact .inr ⟨by simpa using z, rfl⟩
theorem take1 (t : List Nat) (a : Nat) : (t.drop a).take 1 = match t[a]? with | some c => [c] | none => [] := by
 cases h : t[a]? with
 | none =>
   have := List.getElem?_eq_none_iff.mp h
   rw [List.drop_eq_nil_of_le this]
   rfl
 | some c =>
   obtain ⟨z, e⟩ := List.getElem?_eq_some_iff.mp h
   rw [List.drop_eq_getElem_cons z, List.take_succ_cons, List.take_zero, e]
end L3
namespace L3
open PySem PySem.Spec
open PyProof.Rows hiding St
open L2
def sgn (t : List Nat) (n : Nat) : List Nat := (t.drop n).take 1
theorem cut_oneN {α : Type} (xs : List α) (m : Nat) : cutL xs (some (m : Int)) (some ((m : Int) + 1)) = (xs.drop m).take 1 := by
 unfold cutL
 rw [show ((m : Int) + 1) = ((m + 1 : Nat) : Int) by omega, sIx_nat, sIx_nat]
 rcases Nat.lt_or_ge m xs.length with h | h
 · rw [Nat.min_eq_left (by omega), Nat.min_eq_left (by omega), show m + 1 - m = 1 by omega]
 · rw [Nat.min_eq_right (by omega), Nat.min_eq_right (by omega), Nat.sub_self, List.take_zero, List.drop_eq_nil_of_le h, List.take_nil]
theorem sl_one {t : List Nat} {n : Nat} (h : t.length ≤ 100000) : slcF (some (n : Int)) (some ((n : Int) + 1)) (.str (tx t)) = some (.o (.str (tx (sgn t n)))) := by
 rw [sl_tx (by omega), cut_oneN]
 rfl
theorem ok_tx {v : List Nat} (h : ∀ c ∈ v, c < 1000) : PyData.strOk (tx v) = true := by
 rw [strOk_iff]
 intro c hc
 rw [tx_toList] at hc
 have := h c hc
 omega
theorem sgn_mem {t : List Nat} {n c : Nat} (h : c ∈ sgn t n) : c ∈ t := List.mem_of_mem_drop (List.mem_of_mem_take h)
theorem sgn_eq {neg : Bool} {t : List Nat} {n c : Nat} (ht : ∀ c ∈ t, c < 1000) (hc : c < 1000) : eqF neg (.str (tx (sgn t n))) (.str (tx [c])) = some (.o (.bool (if t[n]? = some c then !neg else neg))) := by
 have o1 : PyData.strOk (tx (sgn t n)) = true := ok_tx fun x hx => ht x (sgn_mem hx)
 have o2 : PyData.strOk (tx [c]) = true := ok_tx fun x hx => by rw [List.mem_singleton.mp hx]; exact hc
 by_cases e : t[n]? = some c
 · rw [if_pos e]
   have : sgn t n = [c] := by unfold sgn; rw [take1, e]
   rw [this]
   exact eqS_t o2
 · rw [if_neg e]
   refine eqS_f (by rw [o1, o2]; rfl) (beq_eq_false_iff_ne.mpr fun z => e ?_)
   have z2 := congrArg (fun x : Str => x.cps.toList) z
   simp only [tx_toList] at z2
   unfold sgn at z2
   rw [take1] at z2
   cases h : t[n]? with
   | none => rw [h] at z2; cases z2
   | some d => rw [h] at z2; cases z2; rfl
end L3
namespace L3
open PySem PySem.Spec
open PyProof.Rows hiding St
open L2
def kinds : List (Str × Str) := [("i", "in"), ("n", "not"), ("a", "and"), ("o", "or")]
def kindR (t : List Nat) (a : Nat) : R :=
 if t[a]? = some 121 then .o (.str "yes") else if t[a]? = some 110 then .o (.str "no") else if t[a]? = some 40 then (match kinds.lookup (tx (sgn t (a + 1))) with | some v => .o (.str v) | none => noText (a + 1)) else noText a
def kindAF : List PyData → (R → Prop) → Prop := fun ds Q => ∃ (t : List Nat) (a : Nat), ds = [.str (tx t), .int (a : Nat)] ∧ t.length ≤ 100000 ∧ (∀ c ∈ t, c < 1000) ∧ a ≤ 100000 ∧ Q (kindR t a)
theorem sl_two {t : List Nat} {n : Nat} (h : t.length ≤ 100000) : slcF (some ((n : Int) + 1)) (some ((n : Int) + 2)) (.str (tx t)) = some (.o (.str (tx (sgn t (n + 1))))) := by
 have := sl_one (t := t) (n := n + 1) h
 rw [show (((n + 1 : Nat) : Int) + 1) = (n : Int) + 2 by omega, show ((n + 1 : Nat) : Int) = (n : Int) + 1 by omega] at this
 exact this
theorem sgy : Str.ofString "y" = tx [121] := by decide +kernel
theorem sgn' : Str.ofString "n" = tx [110] := by decide +kernel
theorem sgp : Str.ofString "(" = tx [40] := by decide +kernel
theorem kind_lk (t : List Nat) (n : Nat) : kinds.lookup (tx (sgn t n)) = if t[n]? = some 105 then some "in" else if t[n]? = some 110 then some "not" else if t[n]? = some 97 then some "and" else if t[n]? = some 111 then some "or" else none := by
 have e : sgn t n = match t[n]? with | some c => [c] | none => [] := take1 t n
 have ek : kinds = [(tx [105], ("in" : Str)), (tx [110], ("not" : Str)), (tx [97], ("and" : Str)), (tx [111], ("or" : Str))] := by decide +kernel
 rw [e, ek]
 cases h : t[n]? with
 | none => rfl
 | some c =>
   have key : ∀ d : Nat, (tx [c] == tx [d]) = decide (c = d) := fun d => by
     by_cases z : c = d
     · subst z; rw [beq_self_eq_true, decide_eq_true rfl]
     · rw [decide_eq_false z]; exact beq_eq_false_iff_ne.mpr fun y => z (by have := tx_inj y; simpa using this)
   simp only [List.lookup, key, Option.some.injEq]
   by_cases h1 : c = 105
   · simp [h1]
   · by_cases h2 : c = 110
     · simp [h2]
     · by_cases h3 : c = 97
       · simp [h3]
       · by_cases h4 : c = 111
         · simp [h4]
         · simp [h1, h2, h3, h4]
theorem kind_some {t : List Nat} {n : Nat} {v : Str} (h : kinds.lookup (tx (sgn t n)) = some v) : ∃ c, t[n]? = some c ∧ sgn t n = [c] := by
 have e : sgn t n = match t[n]? with | some c => [c] | none => [] := take1 t n
 cases h' : t[n]? with
 | none =>
   have := kind_lk t n
   rw [h, h'] at this
   simp at this
 | some c => rw [h'] at e; exact ⟨c, rfl, e⟩
end L3
namespace L3
open PySem PySem.Spec
open PyProof.Rows hiding St
open L2
def lowC (c : Nat) : Bool := decide (97 ≤ c) && decide (c ≤ 122)
def wordNF : List PyData → (R → Prop) → Prop := fun ds Q => ∃ w : List Nat, ds = [.str (tx w)] ∧ w.length ≤ 100000 ∧ Q (.o (.bool (w.all lowC)))
def ltrs (t : List Nat) : Nat := (t.takeWhile lowC).length
def endR (t : List Nat) (a : Nat) : R := if t[a]? = some 46 then .o (.int ((a + 1 : Nat) : Int)) else if ltrs (t.drop a) = 0 then noText a else .o (.int ((a + ltrs (t.drop a) : Nat) : Int))
def endWF : List PyData → (R → Prop) → Prop := fun ds Q => ∃ (t : List Nat) (a : Nat), ds = [.str (tx t), .int (a : Nat)] ∧ t.length ≤ 100000 ∧ (∀ c ∈ t, c < 1000) ∧ a ≤ 100000 ∧ Q (endR t a)
theorem ltrs_cons (t : List Nat) : ltrs t = match t with | [] => 0 | c :: r => if lowC c = true then ltrs r + 1 else 0 := by
 cases t with
 | nil => rfl
 | cons c r =>
   unfold ltrs
   rw [List.takeWhile_cons]
   dsimp only
   by_cases e : lowC c = true
   · rw [if_pos e, if_pos e]; rfl
   · rw [if_neg e, if_neg e]; rfl
theorem ltrs_at : ∀ (t : List Nat) (j : Nat), j ≤ ltrs t → (∃ c, t[j]? = some c ∧ lowC c = true ∧ j + 1 ≤ ltrs t) ∨ (t[j]? = none ∧ ltrs t = j) ∨ (∃ c, t[j]? = some c ∧ lowC c = false ∧ ltrs t = j)
 | [], j, h => by
   have : ltrs [] = 0 := rfl
   rw [this] at h ⊢
   exact .inr (.inl ⟨by simp, by omega⟩)
 | c :: r, j, h => by
   rw [ltrs_cons] at h ⊢
   dsimp only at h ⊢
   cases e : lowC c with
   | false =>
     rw [e] at h
     rw [if_neg (by simp)] at h ⊢
     have : j = 0 := by omega
     subst this
     exact .inr (.inr ⟨c, rfl, e, rfl⟩)
   | true =>
     rw [e, if_pos rfl] at h
     rw [if_pos rfl]
     cases j with
     | zero => exact .inl ⟨c, rfl, e, by omega⟩
     | succ j =>
       rcases ltrs_at r j (by omega) with ⟨d, h1, h2, h3⟩ | ⟨h1, h2⟩ | ⟨d, h1, h2, h3⟩
       · exact .inl ⟨d, by simpa using h1, h2, by omega⟩
       · exact .inr (.inl ⟨by simpa using h1, by omega⟩)
       · exact .inr (.inr ⟨d, by simpa using h1, h2, by omega⟩)
theorem sgd : Str.ofString "." = tx [46] := by decide +kernel
end L3
namespace L3
open PySem PySem.Spec
open PyProof.Rows hiding St
open L2
theorem len_txN {t : List Nat} (h : t.length ≤ 100000) : lenF [.str (tx t)] = some (.o (.int (t.length : Nat))) := by
 show (if (tx t).length ≤ sizeLine then some (R.o (.int ((tx t).length : Nat))) else none) = _
 rw [if_pos (by rw [tx_len, sizeLine_eq]; omega), tx_len]
end L3
namespace L3
open PySem PySem.Spec
open PyProof.Rows hiding St
open L2
def cntK (k : Str) : Nat := if k = "not" then 1 else 2
structure Fra where
 k : Str
 xs : List PyData
def Fra.ok (f : Fra) : Prop := (f.k = "not" ∨ f.k = "and" ∨ f.k = "or") ∧ flats f.xs = true ∧ f.xs.length ≤ 2
def Fra.d (f : Fra) : PyData := .list (.str f.k :: f.xs)
def stkD (fs : List Fra) : PyData := .list (fs.reverse.map Fra.d)
def putRes (t : List Nat) : List Fra → Nat → PyData → R
 | [], a, s => .o (pairT (.tuple [.int (a : Nat), s]) (stkD []))
 | f :: fs, a, s => if f.xs.length + 2 ≤ cntK f.k then (if t[a]? = some 32 then .o (pairT (.tuple [.int ((a + 1 : Nat) : Int), .none]) (stkD (⟨f.k, f.xs ++ [s]⟩ :: fs))) else noText a)
   else if t[a]? = some 41 then putRes t fs (a + 1) (.tuple (.str f.k :: (f.xs ++ [s]))) else noText a
def putOF : List PyData → PyData → (R → Prop) → Prop := fun ds d Q => ∃ (t : List Nat) (a : Nat) (s : PyData) (fs : List Fra), ds = [.str (tx t), .int (a : Nat), s] ∧ d = stkD fs ∧ t.length ≤ 100000 ∧ (∀ c ∈ t, c < 1000) ∧ a + fs.length ≤ 100000 ∧ flat s = true ∧ (∀ f ∈ fs, f.ok) ∧ Q (putRes t fs a s)
theorem stk_cons (f : Fra) (fs : List Fra) : stkD (f :: fs) = .list (fs.reverse.map Fra.d ++ [f.d]) := by unfold stkD; simp
end L3
namespace L3
open PySem PySem.Spec
open PyProof.Rows hiding St
open L2
theorem ix_top (gs : List Fra) (f : Fra) : ixN (gs.reverse.map Fra.d ++ [f.d]).length (-1) = some gs.length := by
 unfold ixN
 simp
 omega
theorem at_top (gs : List Fra) (f : Fra) : (gs.reverse.map Fra.d ++ [f.d])[gs.length]? = some f.d := by
 rw [List.getElem?_append_right (by simp)]
 simp
theorem dset_top (f : Fra) (gs : List Fra) (x : PyData) : dset (stkD (f :: gs)) ([] ++ [gs.length]) (.list ((.str f.k :: f.xs) ++ [x])) = stkD (⟨f.k, f.xs ++ [x]⟩ :: gs) := by
 rw [stk_cons, stk_cons, List.nil_append, dset, at_top]
 dsimp only
 rw [dset]
 congr 1
 rw [List.set_append_right _ _ (by simp)]
 simp
 rfl
theorem idx_top (f : Fra) (gs : List Fra) : idxF (stkD (f :: gs)) (.int (-1)) = some (.o f.d) := by
 rw [stk_cons]
 unfold idxF
 dsimp only
 unfold atI
 rw [ix_top, Option.bind_some, at_top]
 rfl
theorem cnt_lk {f : Fra} (h : f.ok) : ([("not", 1), ("and", 2), ("or", 2)] : List (Str × Int)).lookup f.k = some (cntK f.k : Int) := by
 rcases h.1 with e | e | e <;> rw [e] <;> decide +kernel
end L3
namespace L3
open PySem PySem.Spec
open PyProof.Rows hiding St
open L2
theorem sgb : Str.ofString " " = tx [32] := by decide +kernel
theorem sgc : Str.ofString ")" = tx [41] := by decide +kernel
theorem beh_one {t : List Nat} {a c : Nat} : (if common (t.drop a) [c] = [c].length then R.o (.int ((a + [c].length : Nat) : Int)) else noText (a + common (t.drop a) [c])) = if t[a]? = some c then .o (.int ((a + 1 : Nat) : Int)) else noText a := by
 have e : (t.drop a)[0]? = t[a]? := by rw [List.getElem?_drop]; rfl
 cases h : t.drop a with
 | nil =>
   rw [h] at e
   have e1 : t[a]? = none := by rw [← e]; rfl
   have k : common [] [c] = 0 := by unfold common; rfl
   rw [e1, k, if_neg (by simp), if_neg (by simp)]
   rfl
 | cons x r =>
   rw [h] at e
   have e1 : t[a]? = some x := by rw [← e]; rfl
   rw [e1]
   by_cases z : x = c
   · have k : common (x :: r) [c] = 1 := by
       unfold common
       rw [if_pos z]
       cases r <;> rfl
     rw [k, z, if_pos rfl]
     exact if_pos rfl
   · have k : common (x :: r) [c] = 0 := by unfold common; rw [if_neg z]
     rw [k, if_neg (by simp), if_neg (by simp [z])]
     rfl
end L3
namespace L3
open PySem PySem.Spec
open PyProof.Rows hiding St
open L2
theorem idx_zero (f : Fra) : idxF f.d (.int 0) = some (.o (.str f.k)) := by
 have e : ixN (PyData.str f.k :: f.xs).length 0 = some 0 := by
   unfold ixN
   rw [if_pos (by omega), if_pos (by rw [List.length_cons]; omega)]
   rfl
 unfold idxF Fra.d
 dsimp only
 unfold atI
 rw [e]
 rfl
end L3
namespace L3
open PySem PySem.Spec
open PyProof.Rows hiding St
open L2
def showWF : List PyData → (R → Prop) → Prop := fun ds Q => ∃ w : List Nat, ds = [.str (tx w)] ∧ (∀ c ∈ w, c < 1000) ∧ Q (.o (.str (if w = [] then tx [46] else tx w)))
theorem eq_empty {w : List Nat} (h : ∀ c ∈ w, c < 1000) : eqF false (.str (tx w)) (.str "") = some (.o (.bool (decide (w = [])))) := by
 have e : Str.ofString "" = tx [] := by decide +kernel
 rw [e]
 by_cases z : w = []
 · subst z
   rw [decide_eq_true rfl]
   exact eqS_t (ok_tx h)
 · rw [decide_eq_false z]
   exact eqS_f (by rw [ok_tx h, ok_tx (v := []) (fun _ h => by cases h)]; rfl) (beq_eq_false_iff_ne.mpr fun y => z (tx_inj y))
end L3
namespace L3
open PySem PySem.Spec
open PyProof.Rows hiding St
open L2
inductive Sg where
 | lit (b : Bool) | inn (w : List Nat) | neg (s : Sg) | both (o : Bool) (a b : Sg)
def Sg.kd : Sg → Str
 | .lit b => if b = true then "yes" else "no"
 | .inn _ => "in"
 | .neg _ => "not"
 | .both o _ _ => if o = true then "and" else "or"
def Sg.enc : Sg → PyData
 | .lit b => .tuple [.str (Sg.kd (.lit b))]
 | .inn w => .tuple [.str "in", .str (tx w)]
 | .neg s => .tuple [.str "not", s.enc]
 | .both o a b => .tuple [.str (Sg.kd (.both o a b)), a.enc, b.enc]
def Sg.ok : Sg → Prop
 | .lit _ => True
 | .inn w => w.length ≤ 1000 ∧ ∀ c ∈ w, 97 ≤ c ∧ c ≤ 122
 | .neg s => s.ok
 | .both _ a b => a.ok ∧ b.ok
theorem Sg.flat : ∀ s : Sg, L3.flat s.enc = true
 | .lit b => rfl
 | .inn w => rfl
 | .neg s => by simp [Sg.enc, L3.flat, L3.flats, s.flat]
 | .both o a b => by simp [Sg.enc, L3.flat, L3.flats, a.flat, b.flat]
def Sg.parts : Sg → List PyData
 | .lit b => [.str (Sg.kd (.lit b))]
 | .inn w => [.str ("(in " ++ (if w = [] then tx [46] else tx w) ++ ")")]
 | .neg s => [.str "(not ", s.enc, .str ")"]
 | .both o a b => [.str ("(" ++ Sg.kd (.both o a b) ++ " "), a.enc, .str " ", b.enc, .str ")"]
def partsF : List PyData → (R → Prop) → Prop := fun ds Q => ∃ s : Sg, ds = [s.enc] ∧ s.ok ∧ Q (.n s.parts)
end L3
namespace L3
open PySem PySem.Spec
open PyProof.Rows hiding St
open L2
inductive PutR where
 | more (a : Nat) (fs : List Fra) | done (a : Nat) (s : PyData) | bad (a : Nat)
def putP (t : List Nat) : List Fra → Nat → PyData → PutR
 | [], a, s => .done a s
 | f :: fs, a, s => if f.xs.length + 2 ≤ cntK f.k then (if t[a]? = some 32 then .more (a + 1) (⟨f.k, f.xs ++ [s]⟩ :: fs) else .bad a)
   else if t[a]? = some 41 then putP t fs (a + 1) (.tuple (.str f.k :: (f.xs ++ [s]))) else .bad a
def PutR.res : PutR → R
 | .more a fs => .o (pairT (.tuple [.int (a : Nat), .none]) (stkD fs))
 | .done a s => .o (pairT (.tuple [.int (a : Nat), s]) (stkD []))
 | .bad a => noText a
theorem putRes_eq (t : List Nat) : ∀ (fs : List Fra) (a : Nat) (s : PyData), putRes t fs a s = (putP t fs a s).res
 | [], a, s => rfl
 | f :: fs, a, s => by
   unfold putRes putP
   by_cases h : f.xs.length + 2 ≤ cntK f.k
   · rw [if_pos h, if_pos h]
     by_cases e : t[a]? = some 32
     · rw [if_pos e, if_pos e]; rfl
     · rw [if_neg e, if_neg e]; rfl
   · rw [if_neg h, if_neg h]
     by_cases e : t[a]? = some 41
     · rw [if_pos e, if_pos e]; exact putRes_eq t fs _ _
     · rw [if_neg e, if_neg e]; rfl
theorem putP_ok (t : List Nat) : ∀ (fs : List Fra) (a : Nat) (s : PyData), a ≤ t.length → fs.length ≤ a → flat s = true → s ≠ .none → (∀ f ∈ fs, f.ok) → match putP t fs a s with
   | .more a' fs' => a < a' ∧ a' ≤ t.length ∧ fs'.length ≤ a' ∧ ∀ f ∈ fs', f.ok
   | .done a' s' => a' ≤ t.length ∧ flat s' = true ∧ s' ≠ .none
   | .bad _ => True
 | [], a, s, ha, hf, fl, sn, ok => ⟨ha, fl, sn⟩
 | f :: fs, a, s, ha, hf, fl, sn, ok => by
   unfold putP
   have lt : ∀ c, t[a]? = some c → a < t.length := fun c e => (List.getElem?_eq_some_iff.mp e).1
   have fo := ok f (by simp)
   have fxs : flats (f.xs ++ [s]) = true := by
     rw [flats_iff]
     intro y hy
     rcases List.mem_append.mp hy with h | h
     · exact flats_iff.mp fo.2.1 y h
     · rw [List.mem_singleton.mp h]; exact fl
   by_cases h : f.xs.length + 2 ≤ cntK f.k
   · rw [if_pos h]
     by_cases e : t[a]? = some 32
     · rw [if_pos e]
       have := lt _ e
       refine ⟨by omega, by omega, by simp only [List.length_cons] at hf ⊢; omega, fun g hg => ?_⟩
       rcases List.mem_cons.mp hg with rfl | hg
       · refine ⟨fo.1, fxs, ?_⟩
         rw [List.length_append, List.length_singleton]
         have : cntK f.k ≤ 2 := by unfold cntK; split <;> omega
         show f.xs.length + 1 ≤ 2
         omega
       · exact ok g (by simp [hg])
     · rw [if_neg e]; trivial
   · rw [if_neg h]
     by_cases e : t[a]? = some 41
     · rw [if_pos e]
       have := lt _ e
       have r := putP_ok t fs (a + 1) (.tuple (.str f.k :: (f.xs ++ [s]))) (by omega) (by simp only [List.length_cons] at hf; omega) (by rw [flat, flats, fxs]; rfl) (fun z => by cases z) fun g hg => ok g (by simp [hg])
       cases h : putP t fs (a + 1) (.tuple (.str f.k :: (f.xs ++ [s]))) with
       | more a' fs' => rw [h] at r; exact ⟨by have := r.1; omega, r.2⟩
       | done a' s' => rw [h] at r; exact r
       | bad a' => trivial
     · rw [if_neg e]; trivial
inductive Kd where
 | lit (b : Bool) | inn | neg | both (o : Bool)
def Kd.s : Kd → Str
 | .lit b => if b = true then "yes" else "no"
 | .inn => "in"
 | .neg => "not"
 | .both o => if o = true then "and" else "or"
def Kd.c : Kd → List Nat
 | .lit b => if b = true then [121, 101, 115] else [110, 111]
 | .inn => [40, 105, 110, 32]
 | .neg => [40, 110, 111, 116, 32]
 | .both o => if o = true then [40, 97, 110, 100, 32] else [40, 111, 114, 32]
def kindP (t : List Nat) (a : Nat) : Kd ⊕ Nat :=
 if t[a]? = some 121 then .inl (.lit true) else if t[a]? = some 110 then .inl (.lit false) else if t[a]? = some 40 then
   (if t[a + 1]? = some 105 then .inl .inn else if t[a + 1]? = some 110 then .inl .neg else if t[a + 1]? = some 97 then .inl (.both true) else if t[a + 1]? = some 111 then .inl (.both false) else .inr (a + 1)) else .inr a
theorem kindR_eq (t : List Nat) (a : Nat) : kindR t a = match kindP t a with | .inl k => .o (.str k.s) | .inr e => noText e := by
 unfold kindR kindP
 by_cases h1 : t[a]? = some 121
 · rw [if_pos h1, if_pos h1]; rfl
 rw [if_neg h1, if_neg h1]
 by_cases h2 : t[a]? = some 110
 · rw [if_pos h2, if_pos h2]; rfl
 rw [if_neg h2, if_neg h2]
 by_cases h3 : t[a]? = some 40
 · rw [if_pos h3, if_pos h3, kind_lk]
   by_cases g1 : t[a + 1]? = some 105
   · rw [if_pos g1, if_pos g1]; rfl
   rw [if_neg g1, if_neg g1]
   by_cases g2 : t[a + 1]? = some 110
   · rw [if_pos g2, if_pos g2]; rfl
   rw [if_neg g2, if_neg g2]
   by_cases g3 : t[a + 1]? = some 97
   · rw [if_pos g3, if_pos g3]; rfl
   rw [if_neg g3, if_neg g3]
   by_cases g4 : t[a + 1]? = some 111
   · rw [if_pos g4, if_pos g4]; rfl
   rw [if_neg g4, if_neg g4]
   rfl
 · rw [if_neg h3, if_neg h3]
def beh (t : List Nat) (a : Nat) (s : List Nat) : Nat ⊕ Nat := if common (t.drop a) s = s.length then .inl (a + s.length) else .inr (a + common (t.drop a) s)
def endP (t : List Nat) (a : Nat) : Nat ⊕ Nat := if t[a]? = some 46 then .inl (a + 1) else if ltrs (t.drop a) = 0 then .inr a else .inl (a + ltrs (t.drop a))
theorem beh_eq (t : List Nat) (a : Nat) (s : List Nat) : (if common (t.drop a) s = s.length then R.o (.int ((a + s.length : Nat) : Int)) else noText (a + common (t.drop a) s)) = match beh t a s with | .inl b => .o (.int (b : Nat)) | .inr e => noText e := by
 unfold beh
 by_cases h : common (t.drop a) s = s.length
 · rw [if_pos h, if_pos h]
 · rw [if_neg h, if_neg h]
theorem endR_eq (t : List Nat) (a : Nat) : endR t a = match endP t a with | .inl b => .o (.int (b : Nat)) | .inr e => noText e := by
 unfold endR endP
 by_cases h : t[a]? = some 46
 · rw [if_pos h, if_pos h]
 rw [if_neg h, if_neg h]
 by_cases h : ltrs (t.drop a) = 0
 · rw [if_pos h, if_pos h]
 · rw [if_neg h, if_neg h]
theorem common_len : ∀ (t s : List Nat), common t s ≤ t.length
 | [], s => by unfold common; cases s <;> exact Nat.zero_le _
 | _ :: _, [] => by unfold common; exact Nat.zero_le _
 | c :: t, d :: s => by
   unfold common
   split
   · have := common_len t s; rw [List.length_cons]; omega
   · exact Nat.zero_le _
theorem beh_ok {t : List Nat} {a b : Nat} {s : List Nat} (h : beh t a s = .inl b) (hs : s ≠ []) : b = a + s.length ∧ a < b ∧ b ≤ t.length := by
 unfold beh at h
 by_cases e : common (t.drop a) s = s.length
 · rw [if_pos e] at h
   have := common_len (t.drop a) s
   rw [List.length_drop] at this
   have hl : 0 < s.length := List.length_pos_iff.mpr hs
   cases h
   omega
 · rw [if_neg e] at h; cases h
theorem endP_ok {t : List Nat} {a b : Nat} (h : endP t a = .inl b) : a < b ∧ b ≤ t.length ∧ ((t.drop a).take (b - a)).length = b - a := by
 unfold endP at h
 have key : a < b ∧ b ≤ t.length := by
   by_cases e : t[a]? = some 46
   · rw [if_pos e] at h
     have := (List.getElem?_eq_some_iff.mp e).1
     cases h; omega
   rw [if_neg e] at h
   by_cases e : ltrs (t.drop a) = 0
   · rw [if_pos e] at h; cases h
   rw [if_neg e] at h
   have : ltrs (t.drop a) ≤ (t.drop a).length := (List.takeWhile_sublist _).length_le
   rw [List.length_drop] at this
   cases h; omega
 exact ⟨key.1, key.2, by rw [List.length_take, List.length_drop]; omega⟩
inductive RdR where
 | told (s : PyData) | bad (a : Nat)
def RdR.res : RdR → R
 | .told s => .o s
 | .bad a => noText a
def goOn (t : List Nat) (next : List Fra → Nat → RdR) : PutR → RdR
 | .more a fs => next fs a
 | .done a s => if a < t.length then .bad a else .told s
 | .bad a => .bad a
def wordAt (t : List Nat) (b e : Nat) : List Nat := ((t.drop b).take (e - b)).filter (· != 46)
def readGo (t : List Nat) : Nat → List Fra → Nat → RdR
 | 0, _, _ => .bad 0
 | n + 1, fs, a => match kindP t a with
   | .inr e => .bad e
   | .inl (.lit b) => (match beh t a (Kd.lit b).c with
     | .inr e => .bad e
     | .inl a' => goOn t (readGo t n) (putP t fs a' (.tuple [.str (Kd.lit b).s])))
   | .inl .inn => (match beh t a Kd.inn.c with
     | .inr e => .bad e
     | .inl b => match endP t b with
       | .inr e => .bad e
       | .inl e => match beh t e [41] with
         | .inr e => .bad e
         | .inl a' => goOn t (readGo t n) (putP t fs a' (.tuple [.str "in", .str (tx (wordAt t b e))])))
   | .inl .neg => (match beh t a Kd.neg.c with
     | .inr e => .bad e
     | .inl a' => readGo t n (⟨"not", []⟩ :: fs) a')
   | .inl (.both o) => (match beh t a (Kd.both o).c with
     | .inr e => .bad e
     | .inl a' => readGo t n (⟨(Kd.both o).s, []⟩ :: fs) a')
def readT (t : List Nat) : RdR := readGo t (t.length + 1) [] 0
def readSF : List PyData → (R → Prop) → Prop := fun ds Q => ∃ t : List Nat, ds = [.str (tx t)] ∧ t.length ≤ 40000 ∧ (∀ c ∈ t, c < 1000) ∧ Q (readT t).res
theorem cut_be (t : List Nat) {b e : Nat} (h : b ≤ e) (he : e ≤ t.length) : cutL t (some (b : Int)) (some (e : Int)) = (t.drop b).take (e - b) := by
 unfold cutL
 rw [sIx_nat, sIx_nat, Nat.min_eq_left (by omega), Nat.min_eq_left (by omega)]
theorem rep_dot (w : List Nat) : Txt.replace (tx w) "." "" = tx (w.filter (· != 46)) := by
 have e1 : (Str.ofString ".") = ⟨#[46]⟩ := by decide +kernel
 have e2 : (Str.ofString "") = ⟨#[]⟩ := by decide +kernel
 rw [e1, e2]
 have h := replace_strikes (tx w) 46
 rw [tx_toList] at h
 have k : ∀ x y : Str, x.cps.toList = y.cps.toList → x = y := fun x y e => by cases x; cases y; congr; exact Array.toList_inj.mp e
 exact k _ _ (by rw [h, tx_toList])
theorem cnt_in (k : Kd) : (([("not", 1), ("and", 2), ("or", 2)] : List (Str × Int)).lookup k.s).isSome = match k with | .neg => true | .both _ => true | _ => false := by
 cases k with
 | lit b => cases b <;> decide +kernel
 | inn => decide +kernel
 | neg => decide +kernel
 | both o => cases o <;> decide +kernel
end L3
namespace L3
open PySem PySem.Spec
open PyProof.Rows hiding St
open L2
def rdW (t : List Nat) (Qr : R → Prop) (m : Nat) (ρ : DSt) : Prop := ∃ x3 x4 x5 x6, (∃ fs a, ρ = [some (.im (.str (tx t))), some (.thg (OwnT (stkD fs))), some (.im (.tuple [.int (a : Nat), .none])), x3, x4, x5, x6] ∧ t.length < m + a ∧ a ≤ t.length ∧ fs.length ≤ a ∧ (∀ f ∈ fs, f.ok) ∧ Qr (readGo t m fs a).res) ∨
   (∃ a s, ρ = [some (.im (.str (tx t))), some (.thg (OwnT (stkD []))), some (.im (.tuple [.int (a : Nat), s])), x3, x4, x5, x6] ∧ s ≠ .none ∧ Qr (RdR.res (if a < t.length then .bad a else .told s)))
theorem rd_put {t : List Nat} {Qr : R → Prop} {n a : Nat} {fs : List Fra} {s : PyData} {x3 x4 x5 x6 : Option DV} (hn : t.length < n + a) (ha : a ≤ t.length) (hf : fs.length ≤ a) (fl : flat s = true) (hs : s ≠ .none) (ok : ∀ f ∈ fs, f.ok) (q : Qr (goOn t (readGo t n) (putP t fs a s)).res) :
   splitT (fun r d' => ∃ m', m' < n + 1 ∧ rdW t Qr m' [some (.im (.str (tx t))), some (.thg (OwnT d')), some (.im r), x3, x4, x5, x6]) Qr (putRes t fs a s) := by
 rw [putRes_eq]
 have ko := putP_ok t fs a s ha hf fl hs ok
 cases h : putP t fs a s with
 | more a' fs' =>
   rw [h] at ko q
   exact splitT_ok ⟨n, by omega, _, _, _, _, .inl ⟨fs', a', rfl, by have := ko.1; omega, ko.2.1, ko.2.2.1, ko.2.2.2, q⟩⟩
 | done a' s' =>
   rw [h] at ko q
   exact splitT_ok ⟨0, by omega, _, _, _, _, .inr ⟨a', s', rfl, ko.2.2, q⟩⟩
 | bad a' =>
   rw [h] at q
   exact splitT_ex q
end L3
namespace L3
open PySem PySem.Spec
open PyProof.Rows hiding St
open L2
def Sg.tx : Sg → List Nat
 | .lit b => (Kd.lit b).c
 | .inn w => Kd.inn.c ++ ((if w = [] then [46] else w) ++ [41])
 | .neg s => Kd.neg.c ++ (s.tx ++ [41])
 | .both o a b => (Kd.both o).c ++ (a.tx ++ 32 :: (b.tx ++ [41]))
def Sg.nodes : Sg → Nat
 | .lit _ => 1
 | .inn _ => 1
 | .neg s => s.nodes + 1
 | .both _ a b => a.nodes + b.nodes + 1
theorem common_app : ∀ (s r : List Nat), common (s ++ r) s = s.length
 | [], r => by unfold common; cases r <;> rfl
 | c :: s, r => by
   rw [List.cons_append]
   unfold common
   rw [if_pos rfl, common_app s r]
   rfl
theorem beh_app {t : List Nat} {a : Nat} {s r : List Nat} (h : t.drop a = s ++ r) : beh t a s = .inl (a + s.length) ∧ t.drop (a + s.length) = r := by
 constructor
 · unfold beh
   rw [h, common_app, if_pos rfl]
 · rw [← List.drop_drop, h, List.drop_left]
theorem at_app {t : List Nat} {a : Nat} {c : Nat} {r : List Nat} (h : t.drop a = c :: r) : t[a]? = some c := by
 have : (t.drop a)[0]? = some c := by rw [h]; rfl
 rw [List.getElem?_drop] at this
 simpa using this
theorem at_app2 {t : List Nat} {a : Nat} {c d : Nat} {r : List Nat} (h : t.drop a = c :: d :: r) : t[a + 1]? = some d := by
 have : (t.drop a)[1]? = some d := by rw [h]; rfl
 rw [List.getElem?_drop] at this
 exact this
theorem kind_app {t : List Nat} {a : Nat} {r : List Nat} (k : Kd) (h : t.drop a = k.c ++ r) : kindP t a = .inl k := by
 unfold kindP
 cases k with
 | lit b =>
   cases b with
   | true => rw [if_pos (at_app h)]
   | false =>
     have e := at_app h
     rw [e, if_neg (by decide), if_pos rfl]
 | inn =>
   have e := at_app h; have e2 := at_app2 h
   rw [e, e2]; rfl
 | neg =>
   have e := at_app h; have e2 := at_app2 h
   rw [e, e2]; rfl
 | both o =>
   cases o with
   | true =>
     have e := at_app h; have e2 := at_app2 h
     rw [e, e2]; rfl
   | false =>
     have e := at_app h; have e2 := at_app2 h
     rw [e, e2]; rfl
theorem ltrs_app : ∀ (w : List Nat) (r : List Nat), (∀ c ∈ w, 97 ≤ c ∧ c ≤ 122) → ltrs (w ++ 41 :: r) = w.length
 | [], r, h => by rw [List.nil_append, ltrs_cons]; rfl
 | c :: w, r, h => by
   rw [List.cons_append, ltrs_cons]
   have hc := h c (by simp)
   have : lowC c = true := by unfold lowC; rw [decide_eq_true hc.1, decide_eq_true hc.2]; rfl
   dsimp only
   rw [if_pos this, ltrs_app w r fun d hd => h d (by simp [hd])]
   rfl
theorem end_app {t : List Nat} {a : Nat} {w r : List Nat} (hw : ∀ c ∈ w, 97 ≤ c ∧ c ≤ 122) (h : t.drop a = (if w = [] then [46] else w) ++ 41 :: r) : ∃ e, endP t a = .inl e ∧ e = a + (if w = [] then [46] else w).length ∧ t.drop e = 41 :: r ∧ wordAt t a e = w := by
 have hd : t.drop (a + (if w = [] then [46] else w).length) = 41 :: r := by rw [← List.drop_drop, h, List.drop_left]
 have hf : ((t.drop a).take (a + (if w = [] then [46] else w).length - a)) = (if w = [] then [46] else w) := by
   rw [show a + (if w = [] then [46] else w).length - a = (if w = [] then [46] else w).length by omega, h, List.take_left]
 by_cases z : w = []
 · subst z
   rw [if_pos rfl] at h hd hf ⊢
   refine ⟨_, ?_, rfl, hd, ?_⟩
   · unfold endP
     rw [if_pos (at_app h)]; rfl
   · unfold wordAt
     rw [hf]; rfl
 · rw [if_neg z] at h hd hf ⊢
   refine ⟨_, ?_, rfl, hd, ?_⟩
   · unfold endP
     obtain ⟨c, v, rfl⟩ := List.exists_cons_of_ne_nil z
     have hc := hw c (by simp)
     rw [at_app h, if_neg (by intro z; cases z; omega), h, ltrs_app _ _ hw, if_neg (by simp)]
   · unfold wordAt
     rw [hf]
     exact List.filter_eq_self.mpr fun c hc => by have := hw c hc; simp; omega
theorem read_at {t : List Nat} : ∀ (s : Sg) (n : Nat) (fs : List Fra) (a : Nat) (r : List Nat), s.ok → t.drop a = s.tx ++ r → readGo t (s.nodes + n) fs a = goOn t (readGo t n) (putP t fs (a + s.tx.length) s.enc)
 | .lit b, n, fs, a, r, ok, h => by
   show readGo t (1 + n) fs a = _
   rw [Nat.add_comm, readGo, kind_app (.lit b) h]
   dsimp only
   rw [(beh_app (s := (Kd.lit b).c) h).1]
   rfl
 | .inn w, n, fs, a, r, ok, h => by
   show readGo t (1 + n) fs a = _
   have h1 : t.drop a = Kd.inn.c ++ ((if w = [] then [46] else w) ++ 41 :: r) := by rw [h]; unfold Sg.tx; simp only [List.append_assoc]; rfl
   obtain ⟨b1, b2⟩ := beh_app h1
   obtain ⟨e, e1, e2, e3, e4⟩ := end_app ok.2 b2
   have b3 := (beh_app (s := [41]) e3).1
   rw [Nat.add_comm, readGo, kind_app .inn h1]
   dsimp only
   rw [b1]
   dsimp only
   rw [e1]
   dsimp only
   rw [b3]
   dsimp only
   rw [e4, e2]
   have l : a + Kd.inn.c.length + (if w = [] then [46] else w).length + [41].length = a + (Sg.inn w).tx.length := by unfold Sg.tx; simp only [List.length_append]; omega
   rw [l]
   rfl
 | .neg s, n, fs, a, r, ok, h => by
   show readGo t (s.nodes + 1 + n) fs a = _
   have h1 : t.drop a = Kd.neg.c ++ (s.tx ++ 41 :: r) := by rw [h, Sg.tx]; simp only [List.append_assoc]; rfl
   obtain ⟨b1, b2⟩ := beh_app h1
   rw [show s.nodes + 1 + n = (s.nodes + n) + 1 by omega, readGo, kind_app .neg h1]
   dsimp only
   rw [b1]
   dsimp only
   rw [read_at s n _ _ _ ok b2]
   have b3 : t.drop (a + Kd.neg.c.length + s.tx.length) = 41 :: r := by rw [← List.drop_drop, b2, List.drop_left]
   have e : putP t (⟨"not", []⟩ :: fs) (a + Kd.neg.c.length + s.tx.length) s.enc = putP t fs (a + Kd.neg.c.length + s.tx.length + 1) (.tuple [.str "not", s.enc]) := by
     rw [putP, if_neg (by decide +kernel), if_pos (at_app b3)]
     rfl
   rw [e]
   have l : a + Kd.neg.c.length + s.tx.length + 1 = a + (Sg.neg s).tx.length := by
     rw [show (Sg.neg s).tx = Kd.neg.c ++ (s.tx ++ [41]) from rfl]
     simp only [List.length_append, List.length_cons, List.length_nil]; omega
   rw [l]
   rfl
 | .both o x y, n, fs, a, r, ok, h => by
   show readGo t (x.nodes + y.nodes + 1 + n) fs a = _
   have h1 : t.drop a = (Kd.both o).c ++ (x.tx ++ 32 :: (y.tx ++ 41 :: r)) := by rw [h]; rw [Sg.tx]; simp only [List.append_assoc, List.cons_append]; rfl
   obtain ⟨b1, b2⟩ := beh_app h1
   rw [show x.nodes + y.nodes + 1 + n = (x.nodes + (y.nodes + n)) + 1 by omega, readGo, kind_app (.both o) h1]
   dsimp only
   rw [b1]
   dsimp only
   rw [read_at x (y.nodes + n) _ _ _ ok.1 b2]
   have c2 : cntK (Kd.both o).s = 2 := by cases o <;> decide +kernel
   have b3 : t.drop (a + (Kd.both o).c.length + x.tx.length) = 32 :: (y.tx ++ 41 :: r) := by rw [← List.drop_drop, b2, List.drop_left]
   have b4 : t.drop (a + (Kd.both o).c.length + x.tx.length + 1) = y.tx ++ 41 :: r := by rw [← List.drop_drop, b3]; rfl
   have b5 : t.drop (a + (Kd.both o).c.length + x.tx.length + 1 + y.tx.length) = 41 :: r := by rw [← List.drop_drop, b4, List.drop_left]
   have e : putP t (⟨(Kd.both o).s, []⟩ :: fs) (a + (Kd.both o).c.length + x.tx.length) x.enc = .more (a + (Kd.both o).c.length + x.tx.length + 1) (⟨(Kd.both o).s, [x.enc]⟩ :: fs) := by
     rw [putP, if_pos (by rw [c2]; show 0 + 2 ≤ 2; omega), if_pos (at_app b3)]
     rfl
   rw [e]
   show readGo t (y.nodes + n) _ _ = _
   rw [read_at y n _ _ _ ok.2 b4]
   have e : putP t (⟨(Kd.both o).s, [x.enc]⟩ :: fs) (a + (Kd.both o).c.length + x.tx.length + 1 + y.tx.length) y.enc = putP t fs (a + (Kd.both o).c.length + x.tx.length + 1 + y.tx.length + 1) (.tuple [.str (Kd.both o).s, x.enc, y.enc]) := by
     rw [putP, if_neg (by rw [c2]; show ¬ 1 + 2 ≤ 2; omega), if_pos (at_app b5)]
     rfl
   rw [e]
   have l : a + (Kd.both o).c.length + x.tx.length + 1 + y.tx.length + 1 = a + (Sg.both o x y).tx.length := by
     rw [show (Sg.both o x y).tx = (Kd.both o).c ++ (x.tx ++ 32 :: (y.tx ++ [41])) from rfl]
     simp only [List.length_append, List.length_cons, List.length_nil]; omega
   rw [l]
   rfl
theorem nodes_le : ∀ s : Sg, s.nodes ≤ s.tx.length
 | .lit b => by cases b <;> decide
 | .inn w => by show 1 ≤ (Kd.inn.c ++ _).length; rw [List.length_append]; show 1 ≤ 4 + _; omega
 | .neg s => by
   have := nodes_le s
   show s.nodes + 1 ≤ (Kd.neg.c ++ (s.tx ++ [41])).length
   simp only [List.length_append, List.length_cons, List.length_nil]; omega
 | .both o a b => by
   have := nodes_le a; have := nodes_le b
   show a.nodes + b.nodes + 1 ≤ ((Kd.both o).c ++ (a.tx ++ 32 :: (b.tx ++ [41]))).length
   simp only [List.length_append, List.length_cons, List.length_nil]; omega
theorem read_back (s : Sg) (ok : s.ok) : readT s.tx = .told s.enc := by
 unfold readT
 have := nodes_le s
 obtain ⟨n, e⟩ : ∃ n, s.tx.length + 1 = s.nodes + n := ⟨s.tx.length + 1 - s.nodes, by omega⟩
 rw [e, read_at s n [] 0 [] ok (by simp)]
 show (if 0 + s.tx.length < s.tx.length then _ else _) = _
 rw [if_neg (by omega)]
end L3
namespace L3
open PySem PySem.Spec
open PyProof.Rows hiding St
open L2
def showSF : List PyData → (R → Prop) → Prop := fun ds Q => ∃ s : Sg, ds = [s.enc] ∧ s.ok ∧ s.tx.length ≤ 100000 ∧ Q (.o (.str (tx s.tx)))
def Sg.depth : Sg → Nat
 | .lit _ => 1
 | .inn _ => 1
 | .neg s => s.depth + 1
 | .both _ a b => Nat.max a.depth b.depth + 1
def textLF (m : Nat) : List PyData → (R → Prop) → Prop := fun ds Q => ∃ s : Sg, ds = [s.enc] ∧ s.ok ∧ s.depth ≤ m ∧ s.tx.length ≤ 100000 ∧ Q (.o (.str (tx s.tx)))
theorem textLF_zero {ds : List PyData} {Q : R → Prop} (h : textLF 0 ds Q) : False := by
 obtain ⟨s, _, _, h, _⟩ := h
 cases s <;> simp [Sg.depth] at h
def sayLF (m : Nat) : List PyData → (R → Prop) → Prop := fun ds Q => ∃ (ls : List Nat) (room down most : Nat), ds = [.str (tx ls), .int (room : Nat), .int (down : Nat), .int (most : Nat)] ∧ (∀ c ∈ ls, isLow c) ∧ ls ≠ [] ∧ ls.length ≤ 26 ∧ 1 ≤ room ∧ room ≤ 30 ∧ down < m ∧ most ≤ 7 ∧ ∀ s : Sg, s.ok → s.nodes ≤ room → s.depth ≤ down + 1 → s.tx.length ≤ 20 * room → Q (.o s.enc)
theorem sayLF_zero {ds : List PyData} {Q : R → Prop} (h : sayLF 0 ds Q) : False := by
 obtain ⟨_, _, _, _, _, _, _, _, _, _, h, _⟩ := h
 omega
end L3
namespace L3
open PySem PySem.Spec
open PyProof.Rows hiding St
open L2
theorem len_inn {w : List Nat} {n : Nat} (h : w.length ≤ n) (h1 : 1 ≤ n) : (Sg.inn w).tx.length ≤ n + 5 := by
 have : (if w = [] then [46] else w).length ≤ n := by
   by_cases z : w = []
   · rw [if_pos z]; exact h1
   · rw [if_neg z]; exact h
 show (Kd.inn.c ++ ((if w = [] then [46] else w) ++ [41])).length ≤ _
 rw [List.length_append, List.length_append]
 show 4 + (_ + 1) ≤ _
 omega
theorem len_neg (s : Sg) : (Sg.neg s).tx.length = s.tx.length + 6 := by
 show (Kd.neg.c ++ (s.tx ++ [41])).length = _
 rw [List.length_append, List.length_append]
 show 5 + (_ + 1) = _
 omega
theorem len_both (o : Bool) (a b : Sg) : (Sg.both o a b).tx.length ≤ a.tx.length + b.tx.length + 7 ∧ a.tx.length + b.tx.length + 6 ≤ (Sg.both o a b).tx.length := by
 have : (Kd.both o).c.length ≤ 5 ∧ 4 ≤ (Kd.both o).c.length := by cases o <;> decide
 show ((Kd.both o).c ++ (a.tx ++ 32 :: (b.tx ++ [41]))).length ≤ _ ∧ _ ≤ ((Kd.both o).c ++ (a.tx ++ 32 :: (b.tx ++ [41]))).length
 rw [List.length_append, List.length_append, List.length_cons, List.length_append]
 show _ + (_ + (_ + 1 + 1)) ≤ _ ∧ _ ≤ _ + (_ + (_ + 1 + 1))
 omega
theorem dep_both (o : Bool) {a b : Sg} {n : Nat} : (Sg.both o a b).depth ≤ n + 1 ↔ a.depth ≤ n ∧ b.depth ≤ n := by
 show Nat.max a.depth b.depth + 1 ≤ n + 1 ↔ _
 rw [Nat.add_le_add_iff_right]
 exact Nat.max_le
end L3
namespace L3
open PySem PySem.Spec
open PyProof.Rows hiding St
open L2
theorem ne_empty {w : List Nat} (h : ∀ c ∈ w, c < 1000) : eqF true (.str (tx w)) (.str "") = some (.o (.bool (!decide (w = [])))) := by
 have e : Str.ofString "" = tx [] := by decide +kernel
 rw [e]
 by_cases z : w = []
 · subst z
   rw [decide_eq_true rfl]
   exact eqS_t (ok_tx h)
 · rw [decide_eq_false z]
   exact eqS_f (by rw [ok_tx h, ok_tx (v := []) (fun _ h => by cases h)]; rfl) (beq_eq_false_iff_ne.mpr fun y => z (tx_inj y))
end L3
namespace L3
open PySem PySem.Spec
open PyProof.Rows hiding St
open L2
inductive SIt where
 | t (w : List Nat) | s (g : Sg)
def SIt.enc : SIt → PyData
 | .t w => .str (tx w)
 | .s g => g.enc
def SIt.tx : SIt → List Nat
 | .t w => w
 | .s g => g.tx
def Sg.wt : Sg → Nat
 | .lit _ => 2
 | .inn _ => 2
 | .neg s => s.wt + 3
 | .both _ a b => a.wt + b.wt + 4
def SIt.wt : SIt → Nat
 | .t _ => 1
 | .s g => g.wt
def SIt.ok : SIt → Prop
 | .t _ => True
 | .s g => g.ok
theorem SIt.flat (x : SIt) : L3.flat x.enc = true := by
 cases x with
 | t w => rfl
 | s g => exact g.flat
def Sg.its : Sg → List SIt
 | .lit b => [.t (Kd.lit b).c]
 | .inn w => [.t (Sg.inn w).tx]
 | .neg s => [.t Kd.neg.c, .s s, .t [41]]
 | .both o a b => [.t (Kd.both o).c, .s a, .t [32], .s b, .t [41]]
theorem tx_apps (a b : List Nat) : L3.tx a ++ L3.tx b = L3.tx (a ++ b) := by
 have k : ∀ x y : Str, x.cps.toList = y.cps.toList → x = y := fun x y e => by cases x; cases y; congr; exact Array.toList_inj.mp e
 refine k _ _ ?_
 show ((L3.tx a).cps ++ (L3.tx b).cps).toList = _
 rw [Array.toList_append, tx_toList, tx_toList, tx_toList]
theorem parts_its (g : Sg) : g.parts = g.its.map SIt.enc := by
 cases g with
 | lit b =>
   show [PyData.str (Sg.kd (.lit b))] = [PyData.str (L3.tx (Kd.lit b).c)]
   rw [show Sg.kd (.lit b) = L3.tx (Kd.lit b).c by cases b <;> decide +kernel]
 | inn w =>
   show [PyData.str ("(in " ++ (if w = [] then L3.tx [46] else L3.tx w) ++ ")")] = [PyData.str (L3.tx (Kd.inn.c ++ ((if w = [] then [46] else w) ++ [41])))]
   rw [show Str.ofString "(in " = L3.tx Kd.inn.c by decide +kernel, sgc]
   by_cases z : w = []
   · rw [if_pos z, if_pos z, tx_apps, tx_apps, List.append_assoc]
   · rw [if_neg z, if_neg z, tx_apps, tx_apps, List.append_assoc]
 | neg s =>
   show [PyData.str "(not ", s.enc, .str ")"] = [PyData.str (L3.tx Kd.neg.c), s.enc, .str (L3.tx [41])]
   rw [show Str.ofString "(not " = L3.tx Kd.neg.c by decide +kernel, sgc]
 | both o a b =>
   show [PyData.str ("(" ++ Sg.kd (.both o a b) ++ " "), a.enc, .str " ", b.enc, .str ")"] = [PyData.str (L3.tx (Kd.both o).c), a.enc, .str (L3.tx [32]), b.enc, .str (L3.tx [41])]
   rw [show Str.ofString "(" ++ Sg.kd (.both o a b) ++ Str.ofString " " = L3.tx (Kd.both o).c from (by
     have k : ∀ o : Bool, Str.ofString "(" ++ (if o = true then Str.ofString "and" else Str.ofString "or") ++ Str.ofString " " = L3.tx (Kd.both o).c := by decide +kernel
     exact k o), sgc, sgb]
def txR : List SIt → List Nat
 | [] => []
 | x :: r => x.tx ++ txR r
def wtR : List SIt → Nat
 | [] => 0
 | x :: r => x.wt + wtR r
theorem txR_app : ∀ a b : List SIt, txR (a ++ b) = txR a ++ txR b
 | [], b => rfl
 | x :: a, b => by rw [List.cons_append, txR, txR, txR_app a b, List.append_assoc]
theorem wtR_app : ∀ a b : List SIt, wtR (a ++ b) = wtR a + wtR b
 | [], b => by rw [List.nil_append]; show _ = 0 + _; omega
 | x :: a, b => by rw [List.cons_append, wtR, wtR, wtR_app a b]; omega
theorem wt_pos (x : SIt) : 1 ≤ x.wt := by
 cases x with
 | t w => exact Nat.le_refl _
 | s g => cases g <;> simp [SIt.wt, Sg.wt] <;> omega
theorem wtR_len : ∀ a : List SIt, a.length ≤ wtR a
 | [] => Nat.le_refl _
 | x :: a => by have := wtR_len a; have := wt_pos x; rw [List.length_cons, wtR]; omega
theorem its_tx (g : Sg) : txR g.its = g.tx := by
 cases g with
 | lit b => simp [Sg.its, txR, SIt.tx, Sg.tx]
 | inn w => simp [Sg.its, txR, SIt.tx]
 | neg s => simp [Sg.its, txR, SIt.tx, Sg.tx]
 | both o a b => simp [Sg.its, txR, SIt.tx, Sg.tx]
theorem its_wt (g : Sg) : wtR g.its + 1 = g.wt := by
 cases g with
 | lit b => rfl
 | inn w => rfl
 | neg s => simp [Sg.its, wtR, SIt.wt, Sg.wt]; omega
 | both o a b => simp [Sg.its, wtR, SIt.wt, Sg.wt]; omega
theorem its_ok {g : Sg} (h : g.ok) : ∀ x ∈ g.its, x.ok := by
 cases g with
 | lit b => intro x hx; rw [List.mem_singleton.mp hx]; trivial
 | inn w => intro x hx; rw [List.mem_singleton.mp hx]; trivial
 | neg s => intro x hx; simp [Sg.its] at hx; rcases hx with rfl | rfl | rfl <;> first | trivial | exact h
 | both o a b => intro x hx; simp [Sg.its] at hx; rcases hx with rfl | rfl | rfl | rfl | rfl <;> first | trivial | exact h.1 | exact h.2
theorem wt_nodes : ∀ g : Sg, g.wt ≤ 4 * g.nodes
 | .lit _ => by show 2 ≤ 4; decide
 | .inn _ => by show 2 ≤ 4; decide
 | .neg s => by have := wt_nodes s; show s.wt + 3 ≤ 4 * (s.nodes + 1); omega
 | .both _ a b => by have := wt_nodes a; have := wt_nodes b; show a.wt + b.wt + 4 ≤ 4 * (a.nodes + b.nodes + 1); omega
theorem join_all (ws : List (List Nat)) (h : ws.flatten.length ≤ 100000) {Q : R → Prop} (q : Q (.o (.str (L3.tx ws.flatten)))) : ∃ ys : List Str, PyData.list (ws.map fun w => .str (L3.tx w)) = .list (ys.map .str) ∧ (ys.map (·.length)).sum + ys.length * (Str.ofString "").length ≤ 16777216 ∧ Q (.o (.str (Txt.join (Str.ofString "") ys))) := by
 have e0 : (Str.ofString "").length = 0 := by decide +kernel
 have e1 : Str.ofString "" = L3.tx [] := by decide +kernel
 refine ⟨ws.map L3.tx, by rw [List.map_map]; rfl, ?_, ?_⟩
 · rw [e0, List.map_map]
   have : (ws.map ((fun x : Str => x.length) ∘ L3.tx)) = ws.map List.length := List.map_congr_left fun w _ => tx_len w
   rw [this, ← List.length_flatten]
   omega
 · rw [e1, js_tx]
   have : ∀ ws : List (List Nat), joinS [] ws = ws.flatten := by
     intro ws
     induction ws with
     | nil => rfl
     | cons w r ih =>
       cases r with
       | nil => simp [joinS]
       | cons y r => rw [joinS, ih]; simp
   rw [this]
   exact q
end L3
namespace L3
open PySem PySem.Spec
open PyProof.Rows hiding St
open L2
theorem nice_kd (s : Sg) : Nice 0 3 (.str s.kd) := by
 cases s with
 | lit b => cases b <;> exact nice_str (by decide +kernel) (by decide +kernel)
 | inn w => exact (nice_str (x := "in") (by decide +kernel) (by decide +kernel))
 | neg s => exact (nice_str (x := "not") (by decide +kernel) (by decide +kernel))
 | both o a b =>
   have k : ∀ o : Bool, Nice 0 3 (.str (if o = true then Str.ofString "and" else Str.ofString "or")) := fun o => by cases o <;> exact nice_str (by decide +kernel) (by decide +kernel)
   exact k o
theorem nice_sg : ∀ s : Sg, s.ok → Nice s.depth (2 * s.tx.length) s.enc
 | .lit b, _ => by
   have : 2 ≤ (Sg.lit b).tx.length := by cases b <;> decide
   exact (nice_cons (nice_kd (.lit b)) (nice_nilN 0)).more (Nat.le_refl _) (by omega)
 | .inn w, h => by
   have : w.length + 5 ≤ (Sg.inn w).tx.length ∧ 6 ≤ (Sg.inn w).tx.length := by
     show _ ≤ (Kd.inn.c ++ ((if w = [] then [46] else w) ++ [41])).length ∧ _ ≤ (Kd.inn.c ++ ((if w = [] then [46] else w) ++ [41])).length
     rw [List.length_append, List.length_append]
     show _ ≤ 4 + (_ + 1) ∧ _ ≤ 4 + (_ + 1)
     by_cases z : w = []
     · subst z; decide
     · rw [if_neg z]
       have := List.length_pos_iff.mpr z
       omega
   exact (nice_cons (nice_kd (.inn w)) (nice_cons (nice_txt (v := w) (b := w.length) (fun c hc => by have := h.2 c hc; omega) (Nat.le_refl _)) (nice_nilN 0))).more (Nat.le_refl _) (by omega)
 | .neg s, h => by
   have i := nice_sg s h
   have := len_neg s
   have k : Nice 0 3 (.str "not") := nice_kd (.neg s)
   exact (nice_cons (k.more (Nat.zero_le s.depth) (Nat.le_refl _)) (nice_cons i (nice_nilN s.depth))).more (Nat.le_refl _) (by omega)
 | .both o a b, h => by
   have i := nice_sg a h.1
   have j := nice_sg b h.2
   have := (len_both o a b).2
   exact (nice_cons ((nice_kd (.both o a b)).more (Nat.zero_le (Nat.max a.depth b.depth)) (Nat.le_refl _)) (nice_cons (i.more (Nat.le_max_left _ _) (Nat.le_refl _)) (nice_cons (j.more (Nat.le_max_right a.depth b.depth) (Nat.le_refl _)) (nice_nilN _)))).more (Nat.le_refl _) (by omega)
theorem kc_low : ∀ k : Kd, ∀ c ∈ k.c, c < 1000
 | .lit b => by cases b <;> decide
 | .inn => by decide
 | .neg => by decide
 | .both o => by cases o <;> decide
theorem tx_low : ∀ s : Sg, s.ok → ∀ c ∈ s.tx, c < 1000
 | .lit b, _ => by cases b <;> decide
 | .inn w, h => by
   intro c hc
   rcases List.mem_append.mp hc with hc | hc
   · exact kc_low _ c hc
   · rcases List.mem_append.mp hc with hc | hc
     · by_cases z : w = []
       · rw [if_pos z] at hc; rw [List.mem_singleton.mp hc]; decide
       · rw [if_neg z] at hc; have := h.2 c hc; omega
     · rw [List.mem_singleton.mp hc]; decide
 | .neg s, h => by
   intro c hc
   rcases List.mem_append.mp hc with hc | hc
   · exact kc_low _ c hc
   · rcases List.mem_append.mp hc with hc | hc
     · exact tx_low s h c hc
     · rw [List.mem_singleton.mp hc]; decide
 | .both o a b, h => by
   intro c hc
   rcases List.mem_append.mp hc with hc | hc
   · exact kc_low _ c hc
   · rcases List.mem_append.mp hc with hc | hc
     · exact tx_low a h.1 c hc
     · rcases List.mem_cons.mp hc with rfl | hc
       · decide
       · rcases List.mem_append.mp hc with hc | hc
         · exact tx_low b h.2 c hc
         · rw [List.mem_singleton.mp hc]; decide
end L3
namespace L3
open PySem PySem.Spec
open PyProof.Rows hiding St
open L2
theorem cut_mem {α : Type} {xs : List α} {lo hi : Option Int} {c : α} (h : c ∈ cutL xs lo hi) : c ∈ xs := by
 unfold cutL at h
 exact List.mem_of_mem_drop (List.mem_of_mem_take h)
theorem cut_len {α : Type} (xs : List α) (lo hi : Option Int) : (cutL xs lo hi).length ≤ xs.length := by
 unfold cutL
 rw [List.length_take, List.length_drop]
 omega
theorem rep_mem {v : List Nat} {n : Nat} {c : Nat} (h : c ∈ (List.replicate n v).flatten) : c ∈ v := by
 obtain ⟨l, hl, hc⟩ := List.mem_flatten.mp h
 rw [(List.mem_replicate.mp hl).2] at hc
 exact hc
theorem rep_len (v : List Nat) (n : Nat) : (List.replicate n v).flatten.length = n * v.length := by simp
end L3
namespace L3
open PySem PySem.Spec
open PyProof.Rows hiding St
open L2
def SubW (ls w : List Nat) : Prop := ∀ c ∈ w, c ∈ ls
def wordSF : List PyData → (R → Prop) → Prop := fun ds Q => ∃ (ls : List Nat) (n : Nat), ds = [.str (tx ls), .int n] ∧ LowW ls ∧ ls ≠ [] ∧ ls.length ≤ 26 ∧ n ≤ 50 ∧ ∀ w : List Nat, SubW ls w → w.length ≤ n → Q (.o (.str (tx w)))
end L3
namespace L3
open PySem PySem.Spec
open PyProof.Rows hiding St
open L2
section
variable {K : PySem.W.Frag} {O : Ob}
def augS (i : Nat) (f : DE) : DS := fun Dd ρ => ∃ a : Int, ρ[i]? = some (some (.im (.int a))) ∧ f ρ fun r => ∃ b : Int, r.d = .int b ∧ Dd.nx (ρ.set i (some (.im (.int (a + b)))))
theorem sd_aug {i : Nat} {t : TE} {f : DE} (h : ED K O t f) : SD K O (tAug i t (ipI fun i j => i + j)) (augS i f) := fun H₀ A σ H ρ D Dd r q P => by
 obtain ⟨a, e, q⟩ := q
 obtain ⟨v, hv, iv⟩ := r.at_ i _ e
 have iv' : Is K (unO O A) H v (.int a) := iv
 cases iv'
 refine ⟨_, hv, ?_⟩
 refine h σ H ρ _ _ r.seen q fun w H1 x s1 o1 ⟨b, eb, q1⟩ => ?_
 have i1 := o1.is r.ok r.p
 rw [eb] at i1
 cases i1
 exact ⟨a, b, rfl, rfl, P.nx _ _ H1 _ ((r.stp s1).setIm (.int (a + b))) (.setIm s1) q1⟩
def lrvD (f : DE) : DE := fun ρ Q => f ρ fun r => ∃ ds, r.d = .list ds ∧ Q (.n ds.reverse)
theorem isAll_rev {F : Addr → Prop} {H : Hp} : ∀ {xs : List V} {ds : List PyData}, IsAll K F H xs ds → IsAll K F H xs.reverse ds.reverse
 | _, _, .nil => .nil
 | _, _, .cons h t => by
   rw [List.reverse_cons, List.reverse_cons]
   exact (isAll_rev t).snoc h
theorem ed_listrev {t : TE} {f : DE} (h : ED K O t f) : ED K O (tLR K t) (lrvD f) := fun σ H ρ Q Qd S hf k => by
 refine h σ H ρ _ _ S hf fun v H1 r s1 o1 ⟨ds, e, q⟩ => ?_
 have i1 := o1.is S.ok S.p
 rw [e] at i1
 cases i1 with
 | list f0 ha hs =>
   refine ⟨_, _, rfl, .of ha, fun p hp => ?_⟩
   obtain ⟨a1, a2⟩ := out_list (K := K) S.ok hp (isAll_rev hs)
   exact k _ _ _ (s1.trans a1) (Out.ahead S.ok S.p s1 a2) q
end
section
variable {ι κ : Type} {P : Program} {w : World} {K : PySem.W.Frag} {mg : Str → Option Value} {base : Heap} {k : Nat} {X : ι → Cx} {O : κ → Ob} {a b : Expr} {fa fb : DE} {pos p1 p2 p3 p4 : Pos}
theorem s_aug (n : Nat) {x : Str} {px : Pos} (ha : E3 K X O a fa) (hN : ∀ i, (X i).N.Nodup := by intro i; exact of_decide_eq_true (by kernel_rfl)) (hi : ∀ i, (X i).N[n]? = some x := by intro i; rfl) (hx : ∀ i, Loc (X i).env.scope x := by intro i; first | exact Or.inl rfl | exact Or.inr rfl)
   (hf : ∀ i, (X i).fn x = true ∨ (X i).env.scope.names.lookup x = some .local := by intro i; first | exact .inl rfl | exact .inr rfl) : S3 K X O (.AugAssign (.Name x px) .Add a pos) (augS n fa) :=
 let ⟨_, q, d⟩ := ha; ⟨_, fun i => ps_aug (hN i) (hi i) (hx i) (q i) ip_add (hf i), fun j => sd_aug (d j)⟩
theorem e_listrev (C : Ctx3 P w K mg base k X) (B : Blt mg) (ha : E3 K X O a fa) (gl : ∀ i, Gl (X i) "list" := by intro i; rfl) (gr : ∀ i, Gl (X i) "reversed" := by intro i; rfl)
   (s1 : ∀ i, starEach [.Call (.Name "reversed" p2) [a] [] p3] (X i).env = (false, eval (.Call (.Name "reversed" p2) [a] [] p3) (X i).env) :: starEach [] (X i).env := by intro i; rfl) (s2 : ∀ i, starEach [a] (X i).env = (false, eval a (X i).env) :: starEach [] (X i).env := by intro i; rfl) :
   E3 K X O (.Call (.Name "list" p1) [.Call (.Name "reversed" p2) [a] [] p3] [] p4) (lrvD fa) :=
 let ⟨_, q, d⟩ := ha; ⟨tLR K _, fun i => by
   have h := pe_listrev (p1 := p1) (p2 := p2) (p3 := p3) (p4 := p4) (C.room i).hd (gl i) (by rw [C.hmg]; exact B.list) (gr i) (by rw [C.hmg]; exact B.reversed) (q i) (s1 i) (s2 i)
   rw [C.hK] at h
   exact h, fun j => ed_listrev (d j)⟩
end
end L3
namespace HK
open PySem PySem.Spec PyProof.Rows
mutual
def hk : PyData → Bool
 | .int _ => true
 | .str _ => true
 | .tuple ds => hks ds
 | _ => false
def hks : List PyData → Bool
 | [] => true
 | d :: ds => hk d && hks ds
end
mutual
def hD (w : World) : PyData → Int
 | .int i => hashInt i
 | .str x => hashStr w x
 | .tuple ds => reduceHash (Builtin.Tuple.tupleHashOf (hDs w ds))
 | _ => 0
def hDs (w : World) : List PyData → List Int
 | [] => []
 | d :: ds => hD w d :: hDs w ds
end
mutual
def bv : PyData → Bool
 | .int _ => true
 | .tuple ds => bvs ds
 | _ => false
def bvs : List PyData → Bool
 | [] => true
 | d :: ds => bv d && bvs ds
end
mutual
def dr : PyData → Nat
 | .tuple ds => drs ds + 1
 | _ => 1
def drs : List PyData → Nat
 | [] => 0
 | d :: ds => dr d + drs ds
end
end HK
namespace HK
open PySem PySem.Spec PyProof.Rows PySem.W
mutual
def dlt : PyData → PyData → Bool
 | .int i, .int j => decide (i < j)
 | .str x, .str y => decide (x.cps.toList < y.cps.toList)
 | .tuple xs, .tuple ys => dlts xs ys
 | _, _ => false
def dlts : List PyData → List PyData → Bool
 | [], [] => false
 | [], _ :: _ => true
 | _ :: _, [] => false
 | x :: xs, y :: ys => if PyData.eqv x y then dlts xs ys else dlt x y
end
end HK
namespace L3
open PySem PySem.Spec PySem.Calls
open PyProof.Rows hiding St
open L2
def PS1 (X : Cx) (st : Stmt) (t : TS) : Prop := ∀ (pins : List (Addr × Obj)) (s : Shared) (σ : St) (H : Hp) (D : Ends), 1 ≤ s.toks → Inv X pins σ H s → t D σ H → wpAny (model X.prog X.w) X.A (exec st X.env) (SP X pins D) X.xe s
def PSs1 (X : Cx) (st : List Stmt) (t : TS) : Prop := ∀ (pins : List (Addr × Obj)) (s : Shared) (σ : St) (H : Hp) (D : Ends), 1 ≤ s.toks → Inv X pins σ H s → t D σ H → wpAny (model X.prog X.w) X.A (execs st X.env) (SP X pins D) X.xe s
section
variable {X : Cx} {st : Stmt} {rest body : List Stmt} {t u tb : TS} {tc : TT} {c : Expr} {pos : Pos}
theorem ps1_of (h : PS X st t) : PS1 X st t := fun pins s σ H D _ I q => h pins s σ H D I q
theorem pss1_of (h : PSs X rest t) : PSs1 X rest t := fun pins s σ H D _ I q => h pins s σ H D I q
theorem tk {α : Type} {p : Sem α} {Q Q' : α → Shared → Prop} {M : Model} {A : Around} {E : Value → Shared → Prop} {s : Shared} (hn : 1 ≤ s.toks) (h : wpAny M A p Q E s) (hQ : ∀ a s', 1 ≤ s'.toks → Q a s' → Q' a s') : wpAny M A p Q' E s :=
 wpAny_with_toks (n := 1) hn (wpAny_mono h (fun a s' q z => hQ a s' z q) fun _ _ q _ => q)
theorem pss1_cons (h1 : PS1 X st t) (h2 : PSs1 X rest u) : PSs1 X (st :: rest) (tSeq t u) := by
 intro pins s σ H D k I h
 refine wpAny_execs_cons (tk k (h1 pins s σ H { D with nx := u D } k I h) fun f s1 k1 q => ?_)
 cases f with
 | next =>
   obtain ⟨σ', H', I', q⟩ := q
   exact h2 pins s1 σ' H' D k1 I' q
 | ret v => exact q
 | brk => exact q
 | cont => exact q
theorem pss1_one (h1 : PS1 X st t) : PSs1 X [st] t := by
 intro pins s σ H D k I h
 refine wpAny_execs_cons (thn (h1 pins s σ H D k I h) fun f s1 q => ?_)
 cases f with
 | next => exact wpAny_execs_nil q
 | ret v => exact q
 | brk => exact q
 | cont => exact q
theorem ps1_if {a b : List Stmt} (hc : PT X c tc) (ha : PSs1 X a t) (hb : PSs1 X b u) : PS1 X (.If c a b pos) (tIfS tc t u) := by
 intro pins s σ H D k I h
 refine wpAny_If (tk k (hc pins s σ H _ I h) fun d s1 k1 ⟨H1, I1, q1⟩ => ?_)
 cases d with
 | true => exact ha pins s1 σ H1 D k1 I1 q1
 | false => exact hb pins s1 σ H1 D k1 I1 q1
theorem ps1_while (hp : PassesOwn (model X.prog X.w) X.A X.env X.xe) (hc : PT X c tc) (hb : PSs1 X body tb) : PS1 X (.While c body [] pos) (tWhile tc tb) := by
 intro pins s σ H D k I h
 obtain ⟨W, ⟨m0, w0⟩, turn⟩ := h
 refine wpAny_While (codeAny_whileLoop (fun n s' => 1 ≤ s'.toks ∧ ∃ σ' H', Inv X pins σ' H' s' ∧ W n σ' H') ?_ m0 ⟨k, σ, H, I, w0⟩)
 rintro n s1 ⟨k1, σ1, H1, I1, w1⟩
 refine wpAny_passesOwn hp (tk k1 (hc pins s1 σ1 H1 _ I1 (turn n σ1 H1 w1)) fun b s2 k2 ⟨H2, I2, q2⟩ => ?_)
 cases b with
 | true =>
   obtain ⟨N, hN, q2⟩ := q2
   rw [if_pos rfl]
   refine wpAny_passesOwn hp (tk k2 (hb pins s2 σ1 H2 _ k2 I2 q2) fun f s3 k3 q3 => ?_)
   cases f with
   | next =>
     obtain ⟨σ3, H3, I3, n3⟩ := q3
     obtain ⟨m', hm, w3⟩ := hN σ3 H3 n3
     exact ⟨m', hm, k3, σ3, H3, I3, w3⟩
   | cont =>
     obtain ⟨σ3, H3, I3, n3⟩ := q3
     obtain ⟨m', hm, w3⟩ := hN σ3 H3 n3
     exact ⟨m', hm, k3, σ3, H3, I3, w3⟩
   | brk => exact q3
   | ret v => exact q3
 | false =>
   rw [if_neg Bool.false_ne_true]
   exact wpAny_execs_nil ⟨σ1, H2, I2, q2⟩
theorem pss_tok {n : Nat} {x : Str} {i : Int} {jj x1} {e2 : Expr} {t2 : TE} {px p0 p1 : Pos} (h2 : PE X e2 t2) (hr : PSs1 X rest u) (hN : X.N.Nodup) (hi : X.N[n]? = some x) (hx : Loc X.env.scope x)
   (hst : starEach [.Constant (.int i) jj p1, e2] X.env = (false, eval (.Constant (.int i) jj p1) X.env) :: starEach [e2] X.env := by rfl) (hst2 : starEach [e2] X.env = (false, eval e2 X.env) :: starEach [] X.env := by rfl)
   (hs : swapsWith (.Tuple [.Constant (.int i) jj p1, e2] x1 p0) (some (.Name x px)) pos.line X.env = pure false := by rfl) (hf : X.fn x = true ∨ X.env.scope.names.lookup x = some .local := by first | exact .inl rfl | exact .inr rfl) :
   PSs X (.Assign [.Name x px] (.Tuple [.Constant (.int i) jj p1, e2] x1 p0) pos :: rest) (tSeq (tAsg (tTup (tCons (tC (.int i)) (tCons t2 tNil))) (gName n)) u) := by
 intro pins s σ H D I h
 refine wpAny_execs_cons (wpAny_Assign_Name ?_ hs)
 refine wpAny_Tuple_spliced ?_
 rw [hst]
 show wpAny _ _ (spliced ((false, eval (.Constant (.int i) jj p1) X.env) :: backTo p0 (starEach [e2] X.env))) _ _ s
 refine Calls.spliced_cons (wpAny_Constant_int (k := jj) (pos := p1) ?_)
 have I0 := I.tok (s.toks + 1)
 have h' : tCons t2 tNil σ H (fun vs H1 => (V.int i :: vs).length ≤ sizeLine ∧ ∀ p, H1 p = none → u D (σ.set n (some (.ref p))) (upd H1 p (.tup (.int i :: vs)))) := h
 have hA := pa_cons h2 pa_nil hst2 p0 pins { s with toks := s.toks + 1 } σ H _ I0 h'
 refine tk (show 1 ≤ s.toks + 1 by omega) hA fun us s1 k1 ⟨vs, H1, I1, r1, z, q⟩ => ?_
 refine ⟨by simp only [List.length_cons] at z ⊢; rw [← r1.length]; exact z, ?_⟩
 have hfr : H1 s1.heap.objs.size = none := I1.hok.fresh (Nat.le_refl _)
 have q' := q _ hfr
 have I2 : Inv X pins σ (upd H1 s1.heap.objs.size (.tup (.int i :: vs))) { s1 with heap := s1.heap.push { cls := .type "tuple", data := .seq (Value.int i s.toks :: us).toArray }, toks := s1.toks } :=
   I1.laid (t' := s1.toks) (fun b u e => Heap.get?_push_of_some _ e) (Nat.le_refl _) ⟨z, _, .cons ⟨_, rfl⟩ r1, ⟨_, Heap.get?_push_size _ rfl, rfl, _, rfl⟩⟩
 refine tk (by exact k1) (store_ok I2 hN hi hx (v := .ref s1.heap.objs.size) (u := .ref s1.heap.objs.size) rfl (Q := fun _ s3 => ∃ σ3 H3, Inv X pins σ3 H3 s3 ∧ u D σ3 H3) (fun s3 I3 => ⟨_, _, I3, q'⟩) hf) fun _ s3 k3 ⟨σ3, H3, I3, q3⟩ => ?_
 exact hr pins s3 σ3 H3 D k3 I3 q3
def tRepA (y z : Str) (te : TE) : TE := fun σ H Q => te σ H fun v H1 => ∃ x, v = .str x ∧ x.length + (x.length + 1) * z.length ≤ 16777216 ∧ Q (.str (Txt.replace x y z)) H1
theorem ps1_rep {n : Nat} {x y z : Str} {a : Expr} {te : TE} {k2 k3 : Nat} {w2 w3 apos cpos px : Pos} (hyz : (y == z) = false) (he : PE X a te) (hN : X.N.Nodup) (hi : X.N[n]? = some x) (hx : Loc X.env.scope x)
   (hbase : attributeBase a "replace" X.env (eval a X.env) = eval a X.env)
   (hfew : ((backTo cpos (starEach [.Constant (.str y) k2 w2, .Constant (.str z) k3 w3] X.env)).all (fun x => !x.1) && (backToKw cpos (keywordEach [] X.env)).all (fun x => x.1.isSome) && decide (([.Constant (.str y) k2 w2, .Constant (.str z) k3 w3] : List Expr).length + ([] : List Keyword).length + (if ([] : List Keyword).isEmpty then 0 else 1) < 30)) = true)
   (hline : (apos.endLine == cpos.line) = true) (hs2 : starEach [.Constant (.str y) k2 w2, .Constant (.str z) k3 w3] X.env = [(false, eval (.Constant (.str y) k2 w2) X.env), (false, eval (.Constant (.str z) k3 w3) X.env)])
   (hs : swapsWith (.Call (.Attribute a "replace" apos) [.Constant (.str y) k2 w2, .Constant (.str z) k3 w3] [] cpos) (some (.Name x px)) pos.line X.env = pure false) (hf : X.fn x = true ∨ X.env.scope.names.lookup x = some .local) :
   PS1 X (.Assign [.Name x px] (.Call (.Attribute a "replace" apos) [.Constant (.str y) k2 w2, .Constant (.str z) k3 w3] [] cpos) pos) (tAsg (tRepA y z te) (gName n)) := by
 intro pins s σ H D k I h
 have h' : te σ H (fun v H1 => ∃ x, v = .str x ∧ x.length + (x.length + 1) * z.length ≤ 16777216 ∧ D.nx (σ.set n (some (.str (Txt.replace x y z)))) H1) := h
 refine wpAny_Assign_Name ?_ hs
 refine wpAny_Call_method_late hbase hfew hline rfl ?_
 refine tk k (he pins s σ H _ I h') fun v s3 kt ⟨u, H3, I3, r3, xx, e3, hz, q3⟩ => ?_
 subst e3
 obtain ⟨t, rfl⟩ := r3
 refine ⟨"str", "str.replace", PySem.F.plainAttrs_str, PySem.F.slot_str_replace, PySem.F.type_str_replace, rfl, (fun a e => by cases e), ?_⟩
 rw [hs2]
 refine Calls.callWith_builtin rfl (Calls.evalArgs_plain (Calls.spliced_cons (Calls.Constant_str (k := k2) (pos := w2) (Calls.spliced_cons (Calls.Constant_str (k := k3) (pos := w3) (Calls.spliced_nil ?_))))))
 refine SC.replace (by show s3.toks ≠ 0; omega) (by show s3.toks + 1 ≠ 0; omega) (by show s3.toks ≠ s3.toks + 1; omega) hyz hz fun t' k => ?_
 exact store_ok (I3.tok k) hN hi hx (v := .str (Txt.replace xx y z)) ⟨t', rfl⟩ (fun s' I' => ⟨_, H3, I', q3⟩) hf
end
def repA (y z : Str) (f : DE) : DE := fun ρ Q => f ρ fun r => ∃ x, r.d = .str x ∧ x.length + (x.length + 1) * z.length ≤ 16777216 ∧ Q (.o (.str (Txt.replace x y z)))
theorem ed_repA {K : PySem.W.Frag} {O : Ob} {y z : Str} {t : TE} {f : DE} (h : ED K O t f) : ED K O (tRepA y z t) (repA y z f) := fun σ H ρ Q Qd S hf k => by
 refine h σ H ρ _ _ S hf fun v H1 r s1 o1 ⟨x, e, hz, q⟩ => ?_
 have i := o1.is S.ok S.p
 rw [e] at i
 cases i
 exact ⟨x, rfl, hz, k _ H1 (.o _) s1 (Is.str _) q⟩
def Sy3 (K : PySem.W.Frag) (mg : Str → Option Value) (Y : Cx) (E : XK) (O : Ob) (s : Stmt) (g : DS) : Prop := ∃ t, PS1 Y s t ∧ SDx K mg O E t g
def Ssy3 (K : PySem.W.Frag) (mg : Str → Option Value) (Y : Cx) (E : XK) (O : Ob) (s : List Stmt) (g : DS) : Prop := ∃ t, PSs1 Y s t ∧ SDx K mg O E t g
section
variable {P : Program} {w : World} {K : PySem.W.Frag} {mg : Str → Option Value} {base : Heap} {k : Nat} {Y : Cx} {E : XK} {O : Ob} {c a : Expr} {ft : DT} {fa : DE} {st : Stmt} {sts sa sb body : List Stmt} {g1 g2 : DS} {pos p : Pos}
theorem y_of (h : Sx3 K mg Y E O st g1) : Sy3 K mg Y E O st g1 := let ⟨t, p, d⟩ := h; ⟨t, ps1_of p, d⟩
theorem ys_of (h : Ssx3 K mg Y E O sts g1) : Ssy3 K mg Y E O sts g1 := let ⟨t, p, d⟩ := h; ⟨t, pss1_of p, d⟩
theorem ys_one (h : Sy3 K mg Y E O st g1) : Ssy3 K mg Y E O [st] g1 := let ⟨_, p, d⟩ := h; ⟨_, pss1_one p, d⟩
theorem ys_cons (h : Sy3 K mg Y E O st g1) (h' : Ssy3 K mg Y E O sts g2) : Ssy3 K mg Y E O (st :: sts) (seqD g1 g2) := let ⟨_, p, d⟩ := h; let ⟨_, p2, d2⟩ := h'; ⟨_, pss1_cons p p2, sdx_seq d d2⟩
theorem y_if (hc : T3 K (fun _ : Unit => Y.nox) (fun _ : Unit => O) c ft) (h : Ssy3 K mg Y E O sa g1) (h' : Ssy3 K mg Y E O sb g2) : Sy3 K mg Y E O (.If c sa sb pos) (ifS ft g1 g2) := let ⟨_, p, d⟩ := hc; let ⟨_, p1, d1⟩ := h; let ⟨_, p2, d2⟩ := h'; ⟨_, ps1_if (PT.nox (p ())) p1 p2, sdx_if (d ()) d1 d2⟩
theorem y_while (B : Bdy P w Y E) (hc : T3 K (fun _ : Unit => Y.nox) (fun _ : Unit => O) c ft) (hb : Ssy3 K mg Y E O body g1) : Sy3 K mg Y E O (.While c body [] pos) (whileS ft g1) := by
 obtain ⟨tc, p1, d1⟩ := hc
 obtain ⟨tb, p2, d2⟩ := hb
 have po : PassesOwn (model Y.prog Y.w) Y.A Y.env Y.xe := by rw [B.xe, B.prog, B.wld]; exact PassesOwn.leaving
 exact ⟨_, ps1_while po (PT.nox (p1 ())) p2, sdx_while (d1 ()) d2⟩
theorem y_rep (n : Nat) {x y z : Str} {k2 k3 : Nat} {w2 w3 apos cpos px : Pos} (ha : E3 K (fun _ : Unit => Y.nox) (fun _ : Unit => O) a fa) (hyz : (y == z) = false := by decide +kernel) (hN : Y.N.Nodup := by exact of_decide_eq_true (by kernel_rfl)) (hi : Y.N[n]? = some x := by rfl) (hx : Loc Y.env.scope x := by first | exact Or.inl rfl | exact Or.inr rfl)
   (hbase : attributeBase a "replace" Y.env (eval a Y.env) = eval a Y.env := by rfl)
   (hfew : ((backTo cpos (starEach [.Constant (.str y) k2 w2, .Constant (.str z) k3 w3] Y.env)).all (fun x => !x.1) && (backToKw cpos (keywordEach [] Y.env)).all (fun x => x.1.isSome) && decide (([.Constant (.str y) k2 w2, .Constant (.str z) k3 w3] : List Expr).length + ([] : List Keyword).length + (if ([] : List Keyword).isEmpty then 0 else 1) < 30)) = true := by rfl)
   (hline : (apos.endLine == cpos.line) = true := by rfl) (hs2 : starEach [.Constant (.str y) k2 w2, .Constant (.str z) k3 w3] Y.env = [(false, eval (.Constant (.str y) k2 w2) Y.env), (false, eval (.Constant (.str z) k3 w3) Y.env)] := by rfl)
   (hs : swapsWith (.Call (.Attribute a "replace" apos) [.Constant (.str y) k2 w2, .Constant (.str z) k3 w3] [] cpos) (some (.Name x px)) pos.line Y.env = pure false := by rfl) (hf : Y.fn x = true ∨ Y.env.scope.names.lookup x = some .local := by first | exact .inl rfl | exact .inr rfl) :
   Sy3 K mg Y E O (.Assign [.Name x px] (.Call (.Attribute a "replace" apos) [.Constant (.str y) k2 w2, .Constant (.str z) k3 w3] [] cpos) pos) (asgS n (repA y z fa)) :=
 let ⟨_, p, d⟩ := ha; ⟨_, ps1_rep hyz (PE.nox (p ())) hN hi hx hbase hfew hline hs2 hs hf, sdx_of (sd_asg (ed_repA (d ())))⟩
theorem xs_tok (n : Nat) {x : Str} {i : Int} {jj x1} {px p0 p1 : Pos} (ha : E3 K (fun _ : Unit => Y.nox) (fun _ : Unit => O) a fa) (hr : Ssy3 K mg Y E O sts g2) (hN : Y.N.Nodup := by exact of_decide_eq_true (by kernel_rfl)) (hi : Y.N[n]? = some x := by rfl) (hx : Loc Y.env.scope x := by first | exact Or.inl rfl | exact Or.inr rfl)
   (hst : starEach [.Constant (.int i) jj p1, a] Y.env = (false, eval (.Constant (.int i) jj p1) Y.env) :: starEach [a] Y.env := by rfl) (hst2 : starEach [a] Y.env = (false, eval a Y.env) :: starEach [] Y.env := by rfl)
   (hs : swapsWith (.Tuple [.Constant (.int i) jj p1, a] x1 p0) (some (.Name x px)) pos.line Y.env = pure false := by rfl) (hf : Y.fn x = true ∨ Y.env.scope.names.lookup x = some .local := by first | exact .inl rfl | exact .inr rfl) :
   Ssx3 K mg Y E O (.Assign [.Name x px] (.Tuple [.Constant (.int i) jj p1, a] x1 p0) pos :: sts) (seqD (asgS n (tupD (aCons (cD (.int i)) (aCons fa aNil)))) g2) :=
 let ⟨_, p, d⟩ := ha; let ⟨_, p2, d2⟩ := hr; ⟨_, pss_tok (PE.nox (p ())) p2 hN hi hx hst hst2 hs hf, sdx_seq (sdx_of (sd_asg (ed_tup (ad_cons ed_int (ad_cons (d ()) ad_nil))))) d2⟩
end
end L3
namespace L68
open PySem PySem.Spec
open PyProof.Rows hiding St
open L2 L3
local macro_rules | `(tactic| infer_instance) => `(tactic| first | refine ⟨_, _, rfl, rfl, ?_⟩ | refine ⟨_, eqI, ?_⟩ | refine ⟨_, neI, ?_⟩ | refine ⟨_, rfl, ?_⟩ | refine ⟨rfl, ?_⟩ | refine ⟨(by show _ ≤ sizeLine; rw [sizeLine_eq]; exact Nat.le_of_ble_eq_true rfl), ?_⟩ | refine ⟨_, _, rfl, ?_⟩ | refine ⟨_, _, _, rfl, ?_⟩ | refine iteT ?_ | refine iteF ?_ | refine Or.inl ⟨rfl, ?_⟩ | refine Or.inr ⟨rfl, ?_⟩ | refine ⟨_, eqS_t (by decide +kernel), ?_⟩ | refine ⟨_, eqS_f (by decide +kernel) (by decide +kernel), ?_⟩ | refine ⟨_, inS_t (by decide +kernel), ?_⟩ | refine ⟨_, inS_f (by decide +kernel), ?_⟩)
section
variable {P : Program} {w : World} {K : PySem.W.Frag} {mg : Str → Option Value} {base : Heap} {k : Nat}
abbrev sIsWord : Stmt := top 4
theorem scIsWord : FnScope ["text"] ["text"] (defScope sIsWord) := ⟨rfl, rfl, rfl, by decide +kernel, rfl, by decide +kernel, by decide +kernel⟩
theorem d_is_word (B : Blt mg) (T : Top3 K mg "is_word" sIsWord) : Def3 P w K mg base 1 "is_word" ["text"] (spO K (fun _ => True) 1 wordNF) := by
 refine mk_O T scIsWord (fun _ _ _ _ _ _ us hl => len1 hl fun _ => rfl) rfl fun f cdv A outer s H E O hφ C => ⟨_, (ss_one (s_ret (e_all C B (a_cons (e_comp 1 ["sign", "text"] C (fun _ => .of rfl (by kernel_rfl)) (i_str (e_var 0)) (g_name 0) f_nil (e_chS e_str (e_var 0) e_str)) a_nil)))), fun ds Qr hn q => ?_⟩
 obtain ⟨v, rfl, hl, q⟩ := q
 have sz := sizeLine_eq
 have es : sgs (tx v) = v.map fun c => .str (sg c) := by unfold sgs; rw [tx_toList]
 (repeat infer_instance)
 rw [es]
 refine comp_of (α := Nat) (enc := fun c => .str (sg c)) (e := fun c => .bool (decide (97 ≤ c) && decide (c ≤ 122))) (fun c hc P hP => ?_) (by omega) ?_
 · exact ch_sg (lo := 97) (hi := 122) rfl (hP _ rfl)
 refine ⟨_, all_ls v _, ?_⟩
 rw [all_id]
 exact q
end
section
variable {P : Program} {w : World} {K : PySem.W.Frag} {mg : Str → Option Value} {base : Heap} {k : Nat}
abbrev sShowWord : Stmt := top 5
theorem scShowWord : FnScope ["word"] ["word"] (defScope sShowWord) := ⟨rfl, rfl, rfl, by decide +kernel, rfl, by decide +kernel, by decide +kernel⟩
theorem d_show_word (B : Blt mg) (T : Top3 K mg "show_word" sShowWord) : Def3 P w K mg base 1 "show_word" ["word"] (spO K (fun _ => True) 1 showWF) := by
 refine mk_O T scShowWord (fun _ _ _ _ _ _ us hl => len1 hl fun _ => rfl) rfl fun f cdv A outer s H E O hφ C => ⟨_, (ss_one (s_ret (e_if (t_eq C (e_var 0) e_str) e_str (e_var 0)))), fun ds Qr hn q => ?_⟩
 obtain ⟨w, rfl, hw, q⟩ := q
 (repeat first | refine ⟨_, eq_empty hw, ?_⟩ | refine ⟨eq_empty hw, ?_⟩ | infer_instance)
 rw [sgd]
 dsimp only
 by_cases z : w = []
 · rw [if_pos z] at q
   rw [decide_eq_true z]
   exact iteT q
 · rw [if_neg z] at q
   rw [decide_eq_false z]
   refine iteF ?_
   (repeat infer_instance)
   exact q
end
section
variable {P : Program} {w : World} {K : PySem.W.Frag} {mg : Str → Option Value} {base : Heap} {k : Nat}
abbrev sTextsAndSayings : Stmt := top 9
theorem scTextsAndSayings : FnScope ["saying", "kind", "word"] ["saying"] (defScope sTextsAndSayings) := ⟨rfl, rfl, rfl, by decide +kernel, rfl, by decide +kernel, by decide +kernel⟩
theorem d_texts_and_sayings (B : Blt mg) (d_show_word : Def3 P w K mg base 1 "show_word" ["word"] (spO K (fun _ => True) 1 showWF)) (T : Top3 K mg "texts_and_sayings" sTextsAndSayings) : Def3 P w K mg base 2 "texts_and_sayings" ["saying"] (spO K (fun _ => True) 1 partsF) := by
 refine mk_O T scTextsAndSayings (fun _ _ _ _ _ _ us hl => len1 hl fun _ => rfl) rfl fun f cdv A outer s H E O hφ C => ⟨_, (ss_cons (s_set 1 (e_idx C (e_var 0) e_int)) (ss_cons (s_if (t_in C (e_var 1) (e_tup (a_cons e_str (a_cons e_str a_nil)))) (ss_one (s_ret (e_lst (a_cons (e_var 1) a_nil)))) ss_nil) (ss_cons (s_if (t_eq C (e_var 1) e_str) (ss_cons (s_set 2 (e_call C d_show_word (fun _ => trivial) (a_cons (e_idx C (e_var 0) e_int) a_nil))) (ss_one (s_ret (e_lst (a_cons (e_fs (js_cons e_str (js_cons (e_fv (e_var 2)) (js_cons e_str js_nil)))) a_nil))))) ss_nil) (ss_cons (s_if (t_eq C (e_var 1) e_str) (ss_one (s_ret (e_lst (a_cons e_str (a_cons (e_idx C (e_var 0) e_int) (a_cons e_str a_nil)))))) ss_nil) (ss_one (s_ret (e_lst (a_cons (e_fs (js_cons e_str (js_cons (e_fv (e_var 1)) (js_cons e_str js_nil)))) (a_cons (e_idx C (e_var 0) e_int) (a_cons e_str (a_cons (e_idx C (e_var 0) e_int) (a_cons e_str a_nil)))))))))))), fun ds Qr hn q => ?_⟩
 obtain ⟨s, rfl, hs, q⟩ := q
 have sz := sizeLine_eq
 cases s with
 | lit b =>
   cases b with
   | true =>
     (repeat infer_instance)
     exact q
   | false =>
     (repeat infer_instance)
     exact q
 | inn w =>
   (repeat infer_instance)
   refine ⟨fun c hc => by have := hs.2 c hc; omega, rfl, ?_⟩
   (repeat infer_instance)
   have lw : (if w = [] then tx [46] else tx w).length ≤ 1000 := by
     split
     · decide +kernel
     · rw [tx_len]; exact hs.1
   have al : ∀ x y : Str, (x ++ y).length = x.length + y.length := fun x y => by show (x.cps ++ y.cps).size = _; simp [Str.length]
   have l4 : (Str.empty ++ Str.ofString "(in ").length = 4 := by decide +kernel
   refine ⟨by omega, _, rfl, by rw [al, l4]; omega, ?_⟩
   have l1 : (Str.ofString ")").length = 1 := by decide +kernel
   refine ⟨_, rfl, by rw [al, al, l4]; omega, ?_⟩
   exact ⟨by rw [al, al, l4]; omega, by show 1 ≤ sizeLine; omega, q⟩
 | neg s =>
   (repeat infer_instance)
   exact q
 | both o a b =>
   have key : ∀ k : Str, (k = "and" ∨ k = "or") → Sg.kd (.both o a b) = k → Qr (.n (Sg.parts (.both o a b))) → Qr (.n [.str ("(" ++ k ++ " "), a.enc, .str " ", b.enc, .str ")"]) := fun k _ e q => by rw [← e]; exact q
   cases o with
   | true =>
     have q := key "and" (.inl rfl) rfl q
     show _
     have e : Sg.enc (.both true a b) = .tuple [.str "and", a.enc, b.enc] := rfl
     rw [e]
     (repeat infer_instance)
     exact q
   | false =>
     have q := key "or" (.inr rfl) rfl q
     have e : Sg.enc (.both false a b) = .tuple [.str "or", a.enc, b.enc] := rfl
     rw [e]
     (repeat infer_instance)
     exact q
end
section
variable {P : Program} {w : World} {K : PySem.W.Frag} {mg : Str → Option Value} {base : Heap} {k : Nat}
abbrev sShowSaying : Stmt := top 10
theorem scShowSaying : FnScope ["saying", "texts", "waiting", "last"] ["saying"] (defScope sShowSaying) := ⟨rfl, rfl, rfl, by decide +kernel, rfl, by decide +kernel, by decide +kernel⟩
theorem d_show_saying (B : Blt mg) (d_texts_and_sayings : Def3 P w K mg base 2 "texts_and_sayings" ["saying"] (spO K (fun _ => True) 1 partsF)) (T : Top3 K mg "show_saying" sShowSaying) : Def3 P w K mg base 3 "show_saying" ["saying"] (spO K (fun _ => True) 1 showSF) := by
 refine mk_O T scShowSaying (fun _ _ _ _ _ _ us hl => len1 hl fun _ => rfl) rfl fun f cdv A outer s H E O hφ C => ⟨_, (ss_cons (s_set 1 (e_lst a_nil)) (ss_cons (s_set 2 (e_lst (a_cons (e_var 0) a_nil))) (ss_cons (s_while C (t_tru C (e_var 2)) (ss_cons (s_setPop 3 2 C) (ss_one (s_if (t_val (e_isI (T := "str") C B (e_var 3) B.str)) (ss_one (s_app 1 C (e_var 3))) (ss_one (s_ext 2 C (e_listrev C B (e_call C d_texts_and_sayings (fun _ => trivial) (a_cons (e_var 3) a_nil))))))))) (ss_one (s_ret (e_join C e_str (e_var 1))))))), fun ds Qr hn q => ?_⟩
 obtain ⟨s, rfl, ok, hl, q⟩ := q
 have sz := sizeLine_eq
 have hb : s.wt ≤ 400000 := by have := wt_nodes s; have := nodes_le s; omega
 refine ⟨Nat.zero_le _, rfl, _, _, rfl, rfl, by show 1 ≤ sizeLine; omega, by show flats [s.enc] = true; rw [flats, s.flat]; rfl, ?_⟩
 refine ⟨fun m ρ => ∃ (fd : List (List Nat)) (st : List SIt) (o3 : Option DV), ρ = [some (.im s.enc), some (.own (fd.map fun w => .str (tx w))), some (.own (st.reverse.map SIt.enc)), o3] ∧ fd.flatten ++ txR st = s.tx ∧ fd.length + wtR st ≤ s.wt ∧ (∀ x ∈ st, x.ok) ∧ m = wtR st, ⟨_, [], [.s s], none, rfl, by simp [txR, SIt.tx], by show 0 + (s.wt + 0) ≤ _; omega, (fun x hx => by rw [List.mem_singleton.mp hx]; exact ok), rfl⟩, ?_⟩
 rintro m ρ ⟨fd, st, o3, rfl, h1, h2, h3, rfl⟩
 cases st with
 | nil =>
   refine ⟨_, _, rfl, rfl, false, rfl, iteF ?_⟩
   refine ⟨_, rfl, _, _, rfl, rfl, ?_⟩
   have h1 : fd.flatten = s.tx := by simpa [txR] using h1
   refine join_all (Q := Qr) fd (by rw [h1]; exact hl) ?_
   rw [h1]
   exact q
 | cons x st =>
   have e : (x :: st).reverse.map SIt.enc = st.reverse.map SIt.enc ++ [x.enc] := by simp
   have wx := wt_pos x
   have h2' : fd.length + (x.wt + wtR st) ≤ s.wt := h2
   have lst := wtR_len st
   refine ⟨_, _, rfl, rfl, true, by rw [e]; show some (!(st.reverse.map SIt.enc ++ [x.enc]).isEmpty) = _; simp, iteT ?_⟩
   refine ⟨st.reverse.map SIt.enc, x.enc, by rw [e]; rfl, x.flat, ?_⟩
   cases x with
   | t w =>
     refine ⟨_, _, rfl, rfl, true, rfl, _, rfl, iteT ⟨_, rfl, _, _, rfl, rfl, rfl, by rw [List.length_map]; omega, ?_⟩⟩
     refine ⟨wtR st, by show _ < 1 + wtR st; omega, fd ++ [w], st, some (.im (.str (tx w))), ?_, ?_, ?_, fun x hx => h3 x (by simp [hx]), rfl⟩
     · rw [List.map_append]; rfl
     · rw [← h1]; simp [txR, SIt.tx]
     · rw [List.length_append]; show fd.length + 1 + _ ≤ _; have : fd.length + (1 + wtR st) ≤ s.wt := h2; omega
   | s g =>
     have og : g.ok := h3 (.s g) (by simp)
     refine ⟨_, _, rfl, rfl, false, by cases g <;> rfl, _, rfl, iteF ⟨_, rfl, _, _, rfl, rfl, rfl, g, rfl, og, _, rfl, ?_⟩⟩
     have hw := its_wt g
     have wg : (SIt.s g).wt = g.wt := rfl
     have lg := wtR_len g.its
     rw [parts_its, ← List.map_reverse]
     refine ⟨_, rfl, ?_, ?_, ?_⟩
     · rw [flats_iff]
       intro y hy
       obtain ⟨z, _, rfl⟩ := List.mem_map.mp hy
       exact z.flat
     · simp only [List.length_map, List.length_reverse]; omega
     · refine ⟨wtR (g.its ++ st), by rw [wtR_app]; show _ < g.wt + wtR st; omega, fd, g.its ++ st, some (.im g.enc), ?_, ?_, ?_, ?_, rfl⟩
       · rw [List.reverse_append, List.map_append (l₁ := st.reverse)]; rfl
       · rw [← h1, txR_app, its_tx]; rfl
       · rw [wtR_app]; omega
       · intro x hx
         rcases List.mem_append.mp hx with hx | hx
         · exact its_ok og x hx
         · exact h3 x (by simp [hx])
end
section
variable {P : Program} {w : World} {K : PySem.W.Frag} {mg : Str → Option Value} {base : Heap} {k : Nat}
abbrev sBehindSigns : Stmt := top 11
theorem scBehindSigns : FnScope ["text", "at", "signs", "sign"] ["text", "at", "signs"] (defScope sBehindSigns) := ⟨rfl, rfl, rfl, by decide +kernel, rfl, by decide +kernel, by decide +kernel⟩
theorem d_behind_signs (B : Blt mg) {ea : EA} (EC : ErrS mg ea) (rNoText : RNoTextS K ea) (T : Top3 K mg "behind_signs" sBehindSigns) : Def3x P w K mg base 3 "behind_signs" ["text", "at", "signs"] (spX K mg (fun _ => True) 3 behF) := by
 obtain ⟨fNoText, mNoText, iNoText⟩ := rNoText.init
 obtain ⟨fdNoText, psNoText, FNoText, BNoText⟩ := init1_ok (P := P) (w := w) (mg := mg) (base := base) iNoText
 refine mk_Ox T scBehindSigns (fun _ _ _ _ _ _ us hl => len3 hl fun _ _ _ => rfl) rfl fun f cdv A outer s H E O hφ Bd C => ⟨_, (xs_cons (x_for Bd rfl (j_new (i_str (e_var 2))) (g_name (h := 1000) 3) (xs_cons (x_if (t_ne C (e_slice C (e_var 0) (o_some (e_var 1)) (o_some (e_add C (e_var 1) e_int))) (e_var 3)) (xs_one (x_raise Bd rfl rfl rfl rfl rfl rfl mNoText FNoText ((C.room ()).mono (by decide)) BNoText (by decide) EC.nt (a_cons (e_var 1) a_nil))) (xs_of ss_nil)) (xs_of (ss_one (s_aug 1 e_int))))) (xs_of (ss_one (s_ret (e_var 1))))), fun ds Qr hn q => ?_⟩
 obtain ⟨t, s, a, rfl, ht, hc, hs, hd, ha, q⟩ := q
 (repeat infer_instance)
 refine forGo_rev (fun j ρ => ∃ o3, ρ = [some (.im (.str (tx t))), some (.im (.int ((a + j : Nat) : Int))), some (.im (.str (tx s))), o3] ∧ j ≤ common (t.drop a) s) ⟨none, rfl, Nat.zero_le _⟩ (fun ρ zz => ?_) fun j d ρ N hdj hN zz => ?_
 · obtain ⟨o3, e, h⟩ := zz
   subst e
   rw [sgs_len] at h
   rw [if_pos (Nat.le_antisymm (common_le _ _) h)] at q
   (repeat infer_instance)
   rw [sgs_len]
   exact q
 · obtain ⟨o3, e, h⟩ := zz
   obtain ⟨c, hcj, rfl⟩ := sgs_get hdj
   subst e
   refine ⟨rfl, ?_⟩
   have hc9 : c < 1000 := hd c (List.mem_of_getElem? hcj)
   have dj : (t.drop a)[j]? = t[a + j]? := by rw [List.getElem?_drop]
   (repeat first | refine ⟨_, sl_one ht, ?_⟩ | refine ⟨sl_one ht, ?_⟩ | refine ⟨_, sgn_eq hc hc9, ?_⟩ | refine ⟨sgn_eq hc hc9, ?_⟩ | infer_instance)
   dsimp only
   rcases common_at (t.drop a) s j c h hcj with ⟨h1, h2⟩ | ⟨h1, h2⟩
   · rw [dj] at h1
     rw [if_pos h1]
     refine iteF ?_
     (repeat infer_instance)
     exact hN _ ⟨_, by rw [show ((a + (j + 1) : Nat) : Int) = ((a + j : Nat) : Int) + 1 by omega]; rfl, h2⟩
   · rw [dj] at h1
     rw [if_neg h1]
     refine iteT ?_
     (repeat infer_instance)
     have lj : j < s.length := (List.getElem?_eq_some_iff.mp hcj).1
     rw [if_neg (by omega), h2] at q
     exact q
end
section
variable {P : Program} {w : World} {K : PySem.W.Frag} {mg : Str → Option Value} {base : Heap} {k : Nat}
abbrev sKindAt : Stmt := top 12
theorem scKindAt : FnScope ["text", "at", "sign"] ["text", "at"] (defScope sKindAt) := ⟨rfl, rfl, rfl, by decide +kernel, rfl, by decide +kernel, by decide +kernel⟩
theorem d_kind_at (B : Blt mg) {ea : EA} (EC : ErrS mg ea) (rNoText : RNoTextS K ea) (gKINDS : GDct K w mg "KINDS" [("i", "in"), ("n", "not"), ("a", "and"), ("o", "or")]) (T : Top3 K mg "kind_at" sKindAt) : Def3x P w K mg base 3 "kind_at" ["text", "at"] (spX K mg (fun _ => True) 2 kindAF) := by
 obtain ⟨fNoText, mNoText, iNoText⟩ := rNoText.init
 obtain ⟨fdNoText, psNoText, FNoText, BNoText⟩ := init1_ok (P := P) (w := w) (mg := mg) (base := base) iNoText
 refine mk_Ox T scKindAt (fun _ _ _ _ _ _ us hl => len2 hl fun _ _ => rfl) rfl fun f cdv A outer s H E O hφ Bd C => ⟨_, (xs_cons (x_of (s_set 2 (e_slice C (e_var 0) (o_some (e_var 1)) (o_some (e_add C (e_var 1) e_int))))) (xs_cons (x_of (s_if (t_eq C (e_var 2) e_str) (ss_one (s_ret e_str)) ss_nil)) (xs_cons (x_of (s_if (t_eq C (e_var 2) e_str) (ss_one (s_ret e_str)) ss_nil)) (xs_cons (x_if (t_ne C (e_var 2) e_str) (xs_one (x_raise Bd rfl rfl rfl rfl rfl rfl mNoText FNoText ((C.room ()).mono (by decide)) BNoText (by decide) EC.nt (a_cons (e_var 1) a_nil))) (xs_of ss_nil)) (xs_cons (x_if (t_gnot C gKINDS (e_slice C (e_var 0) (o_some (e_add C (e_var 1) e_int)) (o_some (e_add C (e_var 1) e_int)))) (xs_one (x_raise Bd rfl rfl rfl rfl rfl rfl mNoText FNoText ((C.room ()).mono (by decide)) BNoText (by decide) EC.nt (a_cons (e_add C (e_var 1) e_int) a_nil))) (xs_of ss_nil)) (xs_of (ss_one (s_ret (e_gget C gKINDS (e_idx C (e_var 0) (e_add C (e_var 1) e_int))))))))))), fun ds Qr hn q => ?_⟩
 obtain ⟨t, a, rfl, ht, hc, ha, q⟩ := q
 have yy : ∀ n, eqF false (.str (tx (sgn t n))) (.str "y") = some (.o (.bool (if t[n]? = some 121 then true else false))) := fun n => by rw [sgy]; exact sgn_eq hc (by decide)
 have yn : ∀ n, eqF false (.str (tx (sgn t n))) (.str "n") = some (.o (.bool (if t[n]? = some 110 then true else false))) := fun n => by rw [sgn']; exact sgn_eq hc (by decide)
 have yp : ∀ n, eqF true (.str (tx (sgn t n))) (.str "(") = some (.o (.bool (if t[n]? = some 40 then false else true))) := fun n => by rw [sgp]; exact sgn_eq hc (by decide)
 unfold kindR at q
 (repeat first | refine ⟨_, sl_one ht, ?_⟩ | refine ⟨sl_one ht, ?_⟩ | refine ⟨_, yy a, ?_⟩ | refine ⟨yy a, ?_⟩ | infer_instance)
 dsimp only
 by_cases c1 : t[a]? = some 121
 · rw [if_pos c1] at q ⊢
   exact iteT q
 rw [if_neg c1] at q ⊢
 refine iteF ?_
 (repeat first | refine ⟨_, yn a, ?_⟩ | refine ⟨yn a, ?_⟩ | infer_instance)
 dsimp only
 by_cases c2 : t[a]? = some 110
 · rw [if_pos c2] at q ⊢
   exact iteT q
 rw [if_neg c2] at q ⊢
 refine iteF ?_
 (repeat first | refine ⟨_, yp a, ?_⟩ | refine ⟨yp a, ?_⟩ | infer_instance)
 dsimp only
 by_cases c3 : t[a]? = some 40
 · rw [if_pos c3] at q ⊢
   refine iteF ?_
   (repeat first | refine ⟨_, sl_two ht, ?_⟩ | refine ⟨sl_two ht, ?_⟩ | infer_instance)
   show if (!(kinds.lookup (tx (sgn t (a + 1)))).isSome) = true then _ else _
   cases h : kinds.lookup (tx (sgn t (a + 1))) with
   | none =>
     rw [h] at q
     refine iteT ?_
     (repeat infer_instance)
     exact q
   | some v =>
     rw [h] at q
     refine iteF ?_
     obtain ⟨c, h1, h2⟩ := kind_some h
     obtain ⟨z, ez⟩ := List.getElem?_eq_some_iff.mp h1
     have ix := idx_tx z (by omega)
     rw [ez, show ((a + 1 : Nat) : Int) = (a : Int) + 1 by omega] at ix
     (repeat first | refine ⟨_, ix, ?_⟩ | refine ⟨ix, ?_⟩ | infer_instance)
     exact ⟨_, _, rfl, (by rw [← h2]; exact h), q⟩
 · rw [if_neg c3] at q ⊢
   refine iteT ?_
   (repeat infer_instance)
   exact q
end
section
variable {P : Program} {w : World} {K : PySem.W.Frag} {mg : Str → Option Value} {base : Heap} {k : Nat}
abbrev sEndOfWord : Stmt := top 13
theorem scEndOfWord : FnScope ["text", "at", "end"] ["text", "at"] (defScope sEndOfWord) := ⟨rfl, rfl, rfl, by decide +kernel, rfl, by decide +kernel, by decide +kernel⟩
theorem d_end_of_word (B : Blt mg) {ea : EA} (EC : ErrS mg ea) (rNoText : RNoTextS K ea) (d_is_word : Def3 P w K mg base 1 "is_word" ["text"] (spO K (fun _ => True) 1 wordNF)) (T : Top3 K mg "end_of_word" sEndOfWord) : Def3x P w K mg base 3 "end_of_word" ["text", "at"] (spX K mg (fun _ => True) 2 endWF) := by
 obtain ⟨fNoText, mNoText, iNoText⟩ := rNoText.init
 obtain ⟨fdNoText, psNoText, FNoText, BNoText⟩ := init1_ok (P := P) (w := w) (mg := mg) (base := base) iNoText
 refine mk_Ox T scEndOfWord (fun _ _ _ _ _ _ us hl => len2 hl fun _ _ => rfl) rfl fun f cdv A outer s H E O hφ Bd C => ⟨_, (xs_cons (x_of (s_if (t_eq C (e_slice C (e_var 0) (o_some (e_var 1)) (o_some (e_add C (e_var 1) e_int))) e_str) (ss_one (s_ret (e_add C (e_var 1) e_int))) ss_nil)) (xs_cons (x_of (s_set 2 (e_var 1))) (xs_cons (x_of (s_while C (t_w (w_and (t_lt (e_var 2) (e_len C B (a_cons (e_var 0) a_nil))) (w_and1 (t_val (e_call C d_is_word (fun _ => trivial) (a_cons (e_idx C (e_var 0) (e_var 2)) a_nil)))))) (ss_one (s_aug 2 e_int)))) (xs_cons (x_if (t_eq C (e_var 2) (e_var 1)) (xs_one (x_raise Bd rfl rfl rfl rfl rfl rfl mNoText FNoText ((C.room ()).mono (by decide)) BNoText (by decide) EC.nt (a_cons (e_var 1) a_nil))) (xs_of ss_nil)) (xs_of (ss_one (s_ret (e_var 2)))))))), fun ds Qr hn q => ?_⟩
 obtain ⟨t, a, rfl, ht, hc, ha, q⟩ := q
 have sz := sizeLine_eq
 have yd : ∀ n, eqF false (.str (tx (sgn t n))) (.str ".") = some (.o (.bool (if t[n]? = some 46 then true else false))) := fun n => by rw [sgd]; exact sgn_eq hc (by decide)
 unfold endR at q
 (repeat first | refine ⟨_, sl_one ht, ?_⟩ | refine ⟨sl_one ht, ?_⟩ | refine ⟨_, yd a, ?_⟩ | refine ⟨yd a, ?_⟩ | infer_instance)
 dsimp only
 by_cases c1 : t[a]? = some 46
 · rw [if_pos c1] at q ⊢
   refine iteT ?_
   (repeat infer_instance)
   exact q
 rw [if_neg c1] at q ⊢
 refine iteF ?_
 (repeat infer_instance)
 dsimp only
 have fin : ∀ j, ltrs (t.drop a) = j → seqD (ifS (bD (opDE (fn2 (eqF false)) (vD 2) (vD 1))) (raiseS "NoText" ["at"] (aCons (vD 1) aNil)) fun Dd ρ => Dd.nx ρ) (retS (vD 2)) { nx := fun _ => Qr (.o .none), rt := Qr } [some (.im (.str (tx t))), some (.im (.int (a : Nat))), some (.im (.int ((a + j : Nat) : Int)))] := fun j hj => by
   rw [hj] at q
   refine ⟨_, _, rfl, rfl, _, _, rfl, rfl, _, eqI, _, rfl, ?_⟩
   by_cases z : j = 0
   · rw [if_pos z] at q
     rw [decide_eq_true (by omega)]
     refine iteT ?_
     (repeat infer_instance)
     exact q
   · rw [if_neg z] at q
     rw [decide_eq_false (by omega)]
     refine iteF ?_
     (repeat infer_instance)
     exact q
 refine ⟨fun m ρ => ∃ j, ρ = [some (.im (.str (tx t))), some (.im (.int (a : Nat))), some (.im (.int ((a + j : Nat) : Int)))] ∧ m + j = ltrs (t.drop a), ⟨ltrs (t.drop a), 0, rfl, rfl⟩, fun m ρ zz => ?_⟩
 obtain ⟨j, e, hm⟩ := zz
 subst e
 have dj : (t.drop a)[j]? = t[a + j]? := by rw [List.getElem?_drop]
 (repeat first | refine ⟨_, len_txN ht, ?_⟩ | refine ⟨len_txN ht, ?_⟩ | infer_instance)
 dsimp only
 rcases ltrs_at (t.drop a) j (by omega) with ⟨c, h1, h2, h3⟩ | ⟨h1, h2⟩ | ⟨c, h1, h2, h3⟩
 · rw [dj] at h1
   obtain ⟨z, ez⟩ := List.getElem?_eq_some_iff.mp h1
   have ix := idx_tx z (by omega)
   rw [ez] at ix
   rw [decide_eq_true (by omega)]
   refine iteT ?_
   (repeat first | refine ⟨_, ix, ?_⟩ | refine ⟨ix, ?_⟩ | infer_instance)
   refine ⟨by simp, true, by show PyData.bool ([c].all lowC) = _; simp [h2], iteT ?_⟩
   (repeat infer_instance)
   exact ⟨m - 1, by omega, j + 1, by rw [show ((a + (j + 1) : Nat) : Int) = ((a + j : Nat) : Int) + 1 by omega]; rfl, by omega⟩
 · rw [dj] at h1
   have z := List.getElem?_eq_none_iff.mp h1
   rw [decide_eq_false (by omega)]
   refine iteF (iteF ?_)
   exact fin j h2
 · rw [dj] at h1
   obtain ⟨z, ez⟩ := List.getElem?_eq_some_iff.mp h1
   have ix := idx_tx z (by omega)
   rw [ez] at ix
   rw [decide_eq_true (by omega)]
   refine iteT ?_
   (repeat first | refine ⟨_, ix, ?_⟩ | refine ⟨ix, ?_⟩ | infer_instance)
   refine ⟨by simp, false, by show PyData.bool ([c].all lowC) = _; simp [h2], iteF ?_⟩
   exact fin j h3
end
section
variable {P : Program} {w : World} {K : PySem.W.Frag} {mg : Str → Option Value} {base : Heap} {k : Nat}
abbrev sPutIntoOpen : Stmt := top 14
theorem scPutIntoOpen : FnScope ["text", "at", "saying", "opened"] ["text", "at", "saying", "opened"] (defScope sPutIntoOpen) := ⟨rfl, rfl, rfl, by decide +kernel, rfl, by decide +kernel, by decide +kernel⟩
theorem d_put_into_open (B : Blt mg) (gCOUNTS : GDctI K w mg "COUNTS" [("not", 1), ("and", 2), ("or", 2)]) (d_behind_signs : Def3x P w K mg base 3 "behind_signs" ["text", "at", "signs"] (spX K mg (fun _ => True) 3 behF)) (T : Top3 K mg "put_into_open" sPutIntoOpen) : Def3x P w K mg base 4 "put_into_open" ["text", "at", "saying", "opened"] (spT K mg 3 putOF) := by
 refine mk_T T scPutIntoOpen (fun _ _ _ _ _ _ us hl => len4 hl fun _ _ _ _ => rfl) rfl fun f cdv A outer s H E O Bd C => ⟨_, (zs_cons (z_while Bd (t_tru C (e_varA 3)) (zs_cons (z_of (x_of (s_appA 3 C (l_ix C (l_var 3) e_neg) (o_flat (e_var 2))))) (zs_cons (z_if (t_le (e_len C B (a_cons (e_idx C (e_varA 3) e_neg) a_nil)) (e_ggetI C gCOUNTS (e_idx C (e_idx C (e_varA 3) e_neg) e_int))) (zs_one (z_ret (ey_tup (ay_cons (ey_call Bd C d_behind_signs (a_cons (e_var 0) (a_cons (e_var 1) (a_cons e_str a_nil)))) (ay_cons (ey_of e_non) ay_nil))))) zs_nil) (zs_cons (z_of (x_set 1 (ey_call Bd C d_behind_signs (a_cons (e_var 0) (a_cons (e_var 1) (a_cons e_str a_nil)))))) (zs_one (z_of (x_of (s_popT 2 3 C B)))))))) (zs_one (z_ret (ey_tup (ay_cons (ey_of (e_var 1)) (ay_cons (ey_of (e_var 2)) ay_nil)))))), fun v0 ds d Qr hn q => ?_⟩
 obtain ⟨t, a, s, fs, rfl, rfl, ht, hc, ha, fl, hf, q⟩ := q
 have sz := sizeLine_eq
 rw [sgb, sgc]
 refine ⟨fun m ρ => ∃ gs b x, ρ = [some (.im (.str (tx t))), some (.im (.int (b : Nat))), some (.im x), some (.thg (OwnV (fun v => v = v0) (stkD gs)))] ∧ m = gs.length ∧ flat x = true ∧ (∀ f ∈ gs, f.ok) ∧ b + gs.length ≤ 100000 ∧ Qr (putRes t gs b x), ⟨_, fs, a, s, rfl, rfl, fl, hf, ha, q⟩, fun m ρ zz => ?_⟩
 obtain ⟨gs, b, x, e, hm, fx, hg, hb, qx⟩ := zz
 subst e
 refine ⟨_, _, rfl, ?_⟩
 cases gs with
 | nil =>
   refine ⟨false, rfl, iteF ?_⟩
   refine ⟨_, rfl, _, _, rfl, rfl, _, _, rfl, rfl, ?_⟩
   exact ⟨by show 2 ≤ sizeLine; omega, by show flat (.tuple [.int _, x]) = true; simp [flat, flats, fx], qx⟩
 | cons f gs =>
   have fo := hg f (by simp)
   refine ⟨true, by rw [stk_cons]; show some (!(gs.reverse.map Fra.d ++ [f.d]).isEmpty) = _; simp, iteT ?_⟩
   refine ⟨_, _, rfl, -1, gs.reverse.map Fra.d ++ [f.d], gs.length, f.d, by rw [stk_cons]; simp [flat], rfl, by rw [stk_cons]; rfl, ix_top gs f, at_top gs f, _, rfl, _, _, rfl, rfl, fx, by show (.str f.k :: f.xs : List PyData).length < sizeLine; have := fo.2.2; rw [List.length_cons]; omega, ?_⟩
   rw [dset_top]
   have fo' : Fra.ok ⟨f.k, f.xs ++ [x]⟩ ∨ True := .inr trivial
   have ck : ([("not", 1), ("and", 2), ("or", 2)] : List (Str × Int)).lookup f.k = some (cntK f.k : Int) := cnt_lk fo
   have fxs : flats (f.xs ++ [x]) = true := by
     rw [flats_iff]
     intro y hy
     rcases List.mem_append.mp hy with h | h
     · exact flats_iff.mp fo.2.1 y h
     · rw [List.mem_singleton.mp h]; exact fx
   refine ⟨_, _, rfl, _, idx_top _ _, _, rfl, _, _, rfl, _, idx_top _ _, _, idx_zero _, f.k, _, rfl, ck, _, rfl, _, rfl, ?_⟩
   unfold putRes at qx
   by_cases z : f.xs.length + 2 ≤ cntK f.k
   · rw [if_pos z] at qx
     have zd : decide ((((PyData.str f.k :: (f.xs ++ [x])).length : Nat) : Int) ≤ (cntK f.k : Int)) = true := decide_eq_true (by simp; omega)
     show if decide ((((PyData.str f.k :: (f.xs ++ [x])).length : Nat) : Int) ≤ (cntK f.k : Int)) = true then _ else _
     rw [zd]
     refine iteT ?_
     refine ⟨_, rfl, _, _, rfl, rfl, _, _, rfl, rfl, rfl, t, [32], b, rfl, ht, hc, by decide, by decide, by omega, ?_⟩
     rw [beh_one]
     by_cases y : t[b]? = some 32
     · rw [if_pos y] at qx ⊢
       exact ⟨by show 2 ≤ sizeLine; omega, rfl, qx⟩
     · rw [if_neg y] at qx ⊢
       exact qx
   · rw [if_neg z] at qx
     have zd : decide ((((PyData.str f.k :: (f.xs ++ [x])).length : Nat) : Int) ≤ (cntK f.k : Int)) = false := decide_eq_false (by simp; omega)
     show if decide ((((PyData.str f.k :: (f.xs ++ [x])).length : Nat) : Int) ≤ (cntK f.k : Int)) = true then _ else _
     rw [zd]
     refine iteF ?_
     refine ⟨_, _, rfl, rfl, _, _, rfl, rfl, rfl, t, [41], b, rfl, ht, hc, by decide, by decide, by omega, ?_⟩
     rw [beh_one]
     by_cases y : t[b]? = some 41
     · rw [if_pos y] at qx ⊢
       refine ⟨rfl, ?_⟩
       refine ⟨fun v => v = v0, gs.reverse.map Fra.d, .str f.k :: (f.xs ++ [x]), by show some (some (DV.thg (OwnV (fun v => v = v0) (stkD (⟨f.k, f.xs ++ [x]⟩ :: gs))))) = _; rw [stk_cons]; rfl, by rw [flats, fxs]; rfl, ?_⟩
       exact ⟨gs.length, by rw [hm, List.length_cons]; omega, gs, b + 1, .tuple (.str f.k :: (f.xs ++ [x])), rfl, rfl, by rw [flat, flats, fxs]; rfl, fun g hg' => hg g (by simp [hg']), by rw [List.length_cons] at hb; omega, qx⟩
     · rw [if_neg y] at qx ⊢
       exact ⟨⟨_, _, _, rfl⟩, qx⟩
end
section
variable {P : Program} {w : World} {K : PySem.W.Frag} {mg : Str → Option Value} {base : Heap} {k : Nat}
abbrev sReadSaying : Stmt := top 15
theorem scReadSaying : FnScope ["text", "opened", "read", "kind", "begin", "end", "word"] ["text"] (defScope sReadSaying) := ⟨rfl, rfl, rfl, by decide +kernel, rfl, by decide +kernel, by decide +kernel⟩
theorem d_read_saying (B : Blt mg) {ea : EA} (EC : ErrS mg ea) (rNoText : RNoTextS K ea) (gCOUNTS : GDctI K w mg "COUNTS" [("not", 1), ("and", 2), ("or", 2)]) (d_behind_signs : Def3x P w K mg base 3 "behind_signs" ["text", "at", "signs"] (spX K mg (fun _ => True) 3 behF)) (d_kind_at : Def3x P w K mg base 3 "kind_at" ["text", "at"] (spX K mg (fun _ => True) 2 kindAF)) (d_end_of_word : Def3x P w K mg base 3 "end_of_word" ["text", "at"] (spX K mg (fun _ => True) 2 endWF)) (d_put_into_open : Def3x P w K mg base 4 "put_into_open" ["text", "at", "saying", "opened"] (spT K mg 3 putOF)) (T : Top3 K mg "read_saying" sReadSaying) : Def3x P w K mg base 5 "read_saying" ["text"] (spX K mg (fun _ => True) 1 readSF) := by
 obtain ⟨fNoText, mNoText, iNoText⟩ := rNoText.init
 obtain ⟨fdNoText, psNoText, FNoText, BNoText⟩ := init1_ok (P := P) (w := w) (mg := mg) (base := base) iNoText
 refine mk_Ox T scReadSaying (fun _ _ _ _ _ _ us hl => len1 hl fun _ => rfl) rfl fun f cdv A outer s H E O hφ Bd C => ⟨_, (xs_cons (x_of (s_setT 1 (o_flat (e_lst a_nil)))) (xs_tok 2 e_non (ys_cons (y_while Bd (t_is (e_idx C (e_var 2) e_int) e_non) (ys_cons (y_of (x_set 3 (ey_call Bd C d_kind_at (a_cons (e_var 0) (a_cons (e_idx C (e_var 2) e_int) a_nil))))) (ys_one (y_if (t_ginI C gCOUNTS (e_var 3)) (ys_cons (y_of (x_of (s_appT 1 C (l_var 1) (o_flat (e_lst (a_cons (e_var 3) a_nil)))))) (ys_one (y_of (x_set 2 (ey_tup (ay_cons (ey_call Bd C d_behind_signs (a_cons (e_var 0) (a_cons (e_idx C (e_var 2) e_int) (a_cons (e_fs (js_cons e_str (js_cons (e_fv (e_var 3)) (js_cons e_str js_nil)))) a_nil)))) (ay_cons (ey_of e_non) ay_nil))))))) (ys_one (y_if (t_eq C (e_var 3) e_str) (ys_cons (y_of (x_set 4 (ey_call Bd C d_behind_signs (a_cons (e_var 0) (a_cons (e_idx C (e_var 2) e_int) (a_cons e_str a_nil)))))) (ys_cons (y_of (x_set 5 (ey_call Bd C d_end_of_word (a_cons (e_var 0) (a_cons (e_var 4) a_nil))))) (ys_cons (y_rep 6 (e_slice C (e_var 0) (o_some (e_var 4)) (o_some (e_var 5)))) (ys_one (y_of (x_setTX 2 1 Bd C d_put_into_open (at_cons (ey_of (e_var 0)) (at_cons (ey_call Bd C d_behind_signs (a_cons (e_var 0) (a_cons (e_var 5) (a_cons e_str a_nil)))) (at_cons (ey_tup (ay_cons (ey_of e_str) (ay_cons (ey_of (e_var 6)) ay_nil))) (at_nil 1)))))))))) (ys_one (y_of (x_setTX 2 1 Bd C d_put_into_open (at_cons (ey_of (e_var 0)) (at_cons (ey_call Bd C d_behind_signs (a_cons (e_var 0) (a_cons (e_idx C (e_var 2) e_int) (a_cons (e_var 3) a_nil)))) (at_cons (ey_tup (ay_cons (ey_of (e_var 3)) ay_nil)) (at_nil 1))))))))))))) (ys_cons (y_if (t_lt (e_idx C (e_var 2) e_int) (e_len C B (a_cons (e_var 0) a_nil))) (ys_one (y_of (x_raise Bd rfl rfl rfl rfl rfl rfl mNoText FNoText ((C.room ()).mono (by decide)) BNoText (by decide) EC.nt (a_cons (e_idx C (e_var 2) e_int) a_nil)))) (ys_of (xs_of ss_nil))) (ys_of (xs_of (ss_one (s_ret (e_idx C (e_var 2) e_int))))))))), fun ds Qr hn q => ?_⟩
 obtain ⟨t, rfl, ht, hc, q⟩ := q
 have sz := sizeLine_eq
 refine ⟨by show 0 ≤ sizeLine; omega, ?_⟩
 (repeat infer_instance)
 refine ⟨rdW t Qr, ⟨t.length + 1, none, none, none, none, .inl ⟨[], 0, rfl, by omega, by omega, Nat.le_refl _, (fun f h => (by cases h)), q⟩⟩, fun m ρ zz => ?_⟩
 obtain ⟨x3, x4, x5, x6, h⟩ := zz
 rcases h with ⟨fs, a, rfl, hm, ha, hf, ok, q⟩ | ⟨a, s, rfl, hs, q⟩
 · obtain ⟨n, rfl⟩ : ∃ n, m = n + 1 := ⟨m - 1, by omega⟩
   rw [readGo] at q
   (repeat infer_instance)
   refine ⟨by omega, hc, by omega, ?_⟩
   rw [kindR_eq]
   cases hk : kindP t a with
   | inr e => rw [hk] at q; exact q
   | inl k =>
     rw [hk] at q
     refine ⟨rfl, _, _, rfl, rfl, k.s, rfl, ?_⟩
     dsimp only
     rw [cnt_in]
     have opn : ∀ k : Kd, (k.s = "not" ∨ k.s = "and" ∨ k.s = "or") → Str.empty ++ Str.ofString "(" ++ k.s ++ Str.ofString " " = tx k.c → Qr (RdR.res (match beh t a k.c with | .inr e => .bad e | .inl a' => readGo t n (⟨k.s, []⟩ :: fs) a')) → (k.s.length ≤ 10 ∧ (Str.empty ++ Str.ofString "(" ++ k.s).length ≤ 10) → (k.c.length ≤ 10 ∧ (∀ c ∈ k.c, c < 1000) ∧ k.c ≠ []) → seqD (appTr 1 lVar (oFlat (lstD (aCons (vD 3) aNil)))) (asgX 2 (tupF' (aConsF (calX 3 behF (aCons (vD 0) (aCons (opDE (fn2 idxF) (vD 2) (cD (.int 0))) (aCons (jD [cD (.str (Str.ofString "(")), fvD (vD 3), cD (.str (Str.ofString " "))] Str.empty) aNil)))) (aConsF (upE (cD .none)) (upA aNil))))) { nx := fun ρ' => ∃ m', m' < n + 1 ∧ rdW t Qr m' ρ', rt := Qr } ([some (DV.im (.str (tx t))), some (DV.thg (OwnT (stkD fs))), some (DV.im (.tuple [.int (a : Nat), .none])), some (DV.im (.str k.s)), x4, x5, x6]) := fun k hk e q l1 l2 => by
       refine ⟨_, rfl, _, rfl, _, _, rfl, rfl, by show 1 ≤ sizeLine; omega, rfl, by show (fs.reverse.map Fra.d).length < sizeLine; simp; omega, ?_⟩
       have e0 : dset (stkD fs) [] (.list (fs.reverse.map Fra.d ++ [.list [.str k.s]])) = stkD (⟨k.s, []⟩ :: fs) := by rw [dset, stk_cons]; rfl
       refine ⟨_, _, rfl, rfl, _, _, rfl, rfl, _, rfl, _, rfl, by decide +kernel, _, _, rfl, rfl, k.s, rfl, by have := l1.1; omega, k.s, rfl, by have := l1.2; omega, _, rfl, ?_⟩
       rw [e]
       refine ⟨by rw [tx_len]; have := l2.1; omega, by rw [tx_len]; have := l2.1; omega, rfl, t, k.c, a, rfl, by omega, hc, by have := l2.1; omega, l2.2.1, by omega, ?_⟩
       rw [beh_eq]
       cases hb : beh t a k.c with
       | inr e => rw [hb] at q; exact q
       | inl b =>
         rw [hb] at q
         dsimp only at q
         have hb := beh_ok hb l2.2.2
         refine ⟨by show 2 ≤ sizeLine; omega, rfl, n, by omega, some (.im (.str k.s)), x4, x5, x6, .inl ⟨⟨k.s, []⟩ :: fs, b, ?_, by omega, by omega, by rw [List.length_cons]; omega, fun f hf => ?_, q⟩⟩
         · rw [← e0]; rfl
         · rcases List.mem_cons.mp hf with rfl | hf
           · exact ⟨hk, rfl, Nat.zero_le _⟩
           · exact ok f hf
     cases k with
     | lit b =>
       dsimp only at q
       refine iteF ?_
       have key : ∀ b : Bool, (Kd.lit b).s = tx (Kd.lit b).c ∧ (Kd.lit b).c.length ≤ 10 ∧ (∀ c ∈ (Kd.lit b).c, c < 1000) ∧ (Kd.lit b).c ≠ [] := fun b => by cases b <;> exact ⟨by decide +kernel, by decide, by decide, by decide⟩
       have e1 : eqF false (.str (Kd.lit b).s) (.str (Str.ofString "in")) = some (.o (.bool false)) := by cases b <;> exact eqS_f (by decide +kernel) (by decide +kernel)
       refine ⟨_, _, rfl, rfl, _, e1, _, rfl, iteF ?_⟩
       have flS : ∀ b : Bool, flat (.tuple [.str (Kd.lit b).s]) = true := fun b => rfl
       refine ⟨_, rfl, _, _, rfl, rfl, _, _, rfl, rfl, _, _, rfl, rfl, _, rfl, _, _, rfl, rfl, rfl, t, (Kd.lit b).c, a, ?_, by omega, hc, by have := (key b).2.1; omega, (key b).2.2.1, by omega, ?_⟩
       · rw [← (key b).1]; rfl
       rw [beh_eq]
       cases hb : beh t a (Kd.lit b).c with
       | inr e => rw [hb] at q; exact q
       | inl b' =>
         rw [hb] at q
         dsimp only at q
         have hb := beh_ok hb (key b).2.2.2
         refine ⟨_, _, rfl, rfl, by show 1 ≤ sizeLine; omega, rfl, rfl, t, b', _, fs, rfl, rfl, by omega, hc, by omega, rfl, ok, ?_⟩
         exact rd_put (by omega) (by omega) (by omega) rfl (fun z => by cases z) ok q
     | inn =>
       dsimp only at q
       refine iteF ?_
       have e1 : eqF false (.str Kd.inn.s) (.str (Str.ofString "in")) = some (.o (.bool true)) := eqS_t (by decide +kernel)
       refine ⟨_, _, rfl, rfl, _, e1, _, rfl, iteT ?_⟩
       refine ⟨_, _, rfl, rfl, _, _, rfl, rfl, _, rfl, rfl, t, Kd.inn.c, a, ?_, by omega, hc, by decide, by decide, by omega, ?_⟩
       · rw [show tx Kd.inn.c = Str.ofString "(in " by decide +kernel]; rfl
       rw [beh_eq]
       cases hb : beh t a Kd.inn.c with
       | inr e => rw [hb] at q; exact q
       | inl b =>
         rw [hb] at q
         dsimp only at q
         have hb := beh_ok hb (by decide)
         refine ⟨rfl, _, _, rfl, rfl, _, _, rfl, rfl, rfl, t, b, rfl, by omega, hc, by omega, ?_⟩
         rw [endR_eq]
         cases he : endP t b with
         | inr e => rw [he] at q; exact q
         | inl e =>
           rw [he] at q
           dsimp only at q
           have he := endP_ok he
           refine ⟨rfl, _, _, rfl, rfl, _, _, rfl, rfl, _, rfl, _, _, rfl, rfl, _, rfl, _, sl_tx (by omega), ?_⟩
           rw [cut_be t (by omega) (by omega)]
           refine ⟨tx ((t.drop b).take (e - b)), rfl, ?_, rfl, ?_⟩
           · rw [show (Str.ofString "").length = 0 by decide +kernel, tx_len, he.2.2]; omega
           rw [rep_dot]
           refine ⟨_, rfl, _, _, rfl, rfl, _, _, rfl, rfl, _, _, rfl, rfl, rfl, t, [41], e, ?_, by omega, hc, by decide, by decide, by omega, ?_⟩
           · rw [← sgc]; rfl
           rw [beh_eq]
           cases h1 : beh t e [41] with
           | inr e => rw [h1] at q; exact q
           | inl b' =>
             rw [h1] at q
             dsimp only at q
             have h1 := beh_ok h1 (by decide)
             refine ⟨_, _, rfl, rfl, by show 2 ≤ sizeLine; omega, rfl, rfl, t, b', _, fs, rfl, rfl, by omega, hc, by omega, rfl, ok, ?_⟩
             exact rd_put (by omega) (by omega) (by omega) rfl (fun z => by cases z) ok q
     | neg =>
       refine iteT ?_
       exact opn .neg (.inl rfl) (by decide +kernel) q ⟨by decide +kernel, by decide +kernel⟩ ⟨by decide, by decide, by decide⟩
     | both o =>
       refine iteT ?_
       cases o with
       | true => exact opn (.both true) (.inr (.inl rfl)) (by decide +kernel) q ⟨by decide +kernel, by decide +kernel⟩ ⟨by decide, by decide, by decide⟩
       | false => exact opn (.both false) (.inr (.inr rfl)) (by decide +kernel) q ⟨by decide +kernel, by decide +kernel⟩ ⟨by decide, by decide, by decide⟩
 · refine ⟨_, _, rfl, rfl, _, rfl, rfl, false, by cases s <;> first | rfl | exact absurd rfl hs, iteF ?_⟩
   (repeat first | refine ⟨_, len_txN (by omega), ?_⟩ | refine ⟨len_txN (by omega), ?_⟩ | infer_instance)
   dsimp only
   by_cases z : a < t.length
   · rw [if_pos z] at q
     rw [decide_eq_true (by omega)]
     refine iteT ?_
     (repeat infer_instance)
     exact q
   · rw [if_neg z] at q
     rw [decide_eq_false (by omega)]
     refine iteF ?_
     (repeat infer_instance)
     exact q
end
section
variable {P : Program} {w : World} {K : PySem.W.Frag} {mg : Str → Option Value} {base : Heap} {k : Nat}
abbrev sWordL : Stmt := top 20
theorem scWordL : FnScope ["_law_deal_here", "_law_letters", "_law_most", "_law_many", "_law_word_here"] ["_law_deal_here", "_law_letters", "_law_most"] (defScope sWordL) := ⟨rfl, rfl, rfl, by decide +kernel, rfl, by decide +kernel, by decide +kernel⟩
theorem d_law_word (B : Blt mg) (d_law_draw : DDraw P w K mg base) (T : Top3 K mg "_law_word" sWordL) : Def3 P w K mg base 2 "_law_word" ["_law_deal_here", "_law_letters", "_law_most"] (spD K IsDeal 2 wordSF) := by
 refine mk_D T scWordL (fun _ _ _ _ _ _ us hl => len3 hl fun _ _ _ => rfl) rfl fun f cdv A outer s H E O hφ C => ?_
 have hO : ∀ j : Unit, IsDeal ((fun _ : Unit => O) j) := fun _ => hφ
 refine ⟨_, (ss_cons (s_set 3 (e_callO 0 C d_law_draw hO (a_cons (e_add C (e_var 2) e_int) a_nil))) (ss_cons (s_set 4 (e_join C e_str (e_comp 1 ["_law_k", "_law_deal_here", "_law_letters", "_law_most", "_law_many", "_law_word_here"] C (fun _ => .of rfl (by kernel_rfl)) (i_r1 C B (a_cons (e_var 3) a_nil)) (g_name 0) f_nil (e_idx (C.comp _ _) (e_var 2) (e_callO 1 (C.comp _ _) d_law_draw (upD hO) (a_cons (e_len (C.comp _ _) B (a_cons (e_var 2) a_nil)) a_nil)))))) (ss_cons (s_if (t_eq C (e_callO 0 C d_law_draw hO (a_cons e_int a_nil)) e_int) (ss_one (s_set 4 (e_slice C (e_mulU C (e_slice C (e_var 4) o_none (o_some (e_add C e_int (e_callO 0 C d_law_draw hO (a_cons e_int a_nil))))) e_int) o_none (o_some (e_var 3))))) ss_nil) (ss_one (s_ret (e_var 4)))))), fun ds Qr hn q => ?_⟩
 obtain ⟨ls, n, rfl, hw, hne, hl, ln, q⟩ := q
 have sz := sizeLine_eq
 refine ⟨rfl, _, _, rfl, rfl, _, rfl, rfl, _, rfl, by omega, by omega, fun k k0 k1 => ⟨rfl, ?_⟩⟩
 obtain ⟨m, rfl⟩ := Int.eq_ofNat_of_zero_le k0
 refine ⟨_, rfl, _, _, rfl, rfl, _, rfl, by omega, by omega, ?_⟩
 refine comp_gen (enc2 := fun c => .str (tx [c])) (good := fun c => c ∈ ls) (fun c hc Pn Py hPn hPy => ?_) (by rw [List.length_range]; omega) fun ws hs hlp => ?_
 · refine iteT (B := Pn) (at_letter rfl rfl hne (by omega) fun c hc => hPy c hc)
 · rw [List.length_range] at hlp
   obtain ⟨ys, e1, e2, e3⟩ := join_ys ws (by omega)
   refine ⟨ys, e1, e2, ?_⟩
   rw [e3]
   refine ⟨rfl, ?_⟩
   refine draw_k rfl (by decide) (by decide) fun k4 hk4 => ⟨_, eqF_int, _, rfl, ?_⟩
   refine ite2 (fun _ => ?_) (fun _ => ?_)
   · refine ⟨_, _, rfl, rfl, draw_k rfl (by decide) (by decide) fun k3 hk3 => ⟨_, rfl, _, rfl, _, sl_tx (by omega), 6, rfl, by decide, by decide, ?_, _, _, rfl, rfl, _, rfl, ?_⟩⟩
     · have := cut_len ws none (some (1 + (k3 : Int)))
       rw [tx_len]
       show _ * 6 ≤ _
       omega
     · have h1 := cut_len ws none (some (1 + (k3 : Int)))
       have h2 : ∀ c ∈ cutL ws none (some (1 + (k3 : Int))), c ∈ ws := fun c hc => cut_mem hc
       show ∃ s, slcF none (some (m : Int)) (.str (tx (List.replicate 6 (cutL ws none (some (1 + (k3 : Int))))).flatten)) = some s ∧ _
       generalize cutL ws none (some (1 + (k3 : Int))) = v at h1 h2
       refine ⟨_, sl_tx (by rw [rep_len]; omega), rfl, _, _, rfl, rfl, q _ (fun c hc => hs c (h2 c (rep_mem (cut_mem hc)))) ?_⟩
       rw [cut_to, List.length_take]
       omega
   · exact ⟨_, _, rfl, rfl, q ws hs (by omega)⟩
end
theorem and_or (j : Nat) (h : (j : Int) < 2) : ([PyData.str (Str.ofString "and"), .str (Str.ofString "or")])[j]? = some (.str (if decide (j = 0) = true then Str.ofString "and" else Str.ofString "or")) := by
 match j, h with
 | 0, _ => rfl
 | 1, _ => rfl
section
variable {P : Program} {w : World} {K : PySem.W.Frag} {mg : Str → Option Value} {base : Heap} {k : Nat}
abbrev sSayingL : Stmt := top 21
theorem scSayingL : FnScope ["_law_deal_here", "_law_letters", "_law_room", "_law_down", "_law_most", "_law_form", "_law_share", "_law_one", "_law_other"] ["_law_deal_here", "_law_letters", "_law_room", "_law_down", "_law_most"] (defScope sSayingL) := ⟨rfl, rfl, rfl, by decide +kernel, rfl, by decide +kernel, by decide +kernel⟩
theorem rd_law_saying (B : Blt mg) (d_law_draw : DDraw P w K mg base) (d_law_word : Def3 P w K mg base 2 "_law_word" ["_law_deal_here", "_law_letters", "_law_most"] (spD K IsDeal 2 wordSF)) (T : Top3 K mg "_law_saying" sSayingL) : ∀ m, Def3 P w K mg base (2 + m) "_law_saying" ["_law_deal_here", "_law_letters", "_law_room", "_law_down", "_law_most"] (spD K IsDeal 4 (sayLF m))
 | 0 => by
   obtain ⟨f, fd, Fu, m⟩ := T.ex
   refine ⟨f, fd, Fu.ok scSayingL (spD_len rfl) (fun cdv A outer s H vs Q E hr h => ?_), m, Fu.kp, Fu.binds (fun _ _ _ _ _ _ us hl => len5 hl fun _ _ _ _ _ => rfl)⟩
   obtain ⟨O, ds, ws, Qr, ok, hφ, p, hl, rfl, is, q, kk⟩ := h
   exact (sayLF_zero q).elim
 | m + 1 => by
   have d_law_saying := rd_law_saying B d_law_draw d_law_word T m
   refine mk_D (k := 2 + m) T scSayingL (fun _ _ _ _ _ _ us hl => len5 hl fun _ _ _ _ _ => rfl) rfl fun f cdv A outer s H E O hφ C => (have hO : ∀ j : Unit, IsDeal ((fun _ : Unit => O) j) := fun _ => hφ; ⟨_, (ss_cons (s_set 5 (e_callO 0 C d_law_draw (hk := Nat.le_trans (by decide) (Nat.le_add_right 2 m)) hO (a_cons e_int a_nil))) (ss_cons (s_if (t_eq C (e_var 5) e_int) (ss_one (s_ret (e_idx C (e_lst (a_cons (e_tup (a_cons e_str a_nil)) (a_cons (e_tup (a_cons e_str a_nil)) a_nil))) (e_callO 0 C d_law_draw (hk := Nat.le_trans (by decide) (Nat.le_add_right 2 m)) hO (a_cons e_int a_nil))))) ss_nil) (ss_cons (s_if (t_w (w_or (t_lt (e_var 5) e_int) (w_or (t_lt (e_var 2) e_int) (w_or1 (t_lt (e_var 3) e_int))))) (ss_one (s_ret (e_tup (a_cons e_str (a_cons (e_callO 0 C d_law_word (hk := Nat.le_trans (by decide) (Nat.le_add_right 2 m)) hO (a_cons (e_var 1) (a_cons (e_var 4) a_nil))) a_nil))))) ss_nil) (ss_cons (s_if (t_w (w_or (t_eq C (e_var 5) e_int) (w_or1 (t_lt (e_var 2) e_int)))) (ss_one (s_ret (e_tup (a_cons e_str (a_cons (e_callO 0 C d_law_saying (hk := Nat.le_refl _) hO (a_cons (e_var 1) (a_cons (e_sub (e_var 2) e_int) (a_cons (e_sub (e_var 3) e_int) (a_cons (e_var 4) a_nil))))) a_nil))))) ss_nil) (ss_cons (s_set 6 (e_add C e_int (e_callO 0 C d_law_draw (hk := Nat.le_trans (by decide) (Nat.le_add_right 2 m)) hO (a_cons (e_sub (e_var 2) e_int) a_nil)))) (ss_cons (s_set 7 (e_callO 0 C d_law_saying (hk := Nat.le_refl _) hO (a_cons (e_var 1) (a_cons (e_var 6) (a_cons (e_sub (e_var 3) e_int) (a_cons (e_var 4) a_nil)))))) (ss_cons (s_set 8 (e_callO 0 C d_law_saying (hk := Nat.le_refl _) hO (a_cons (e_var 1) (a_cons (e_sub (e_sub (e_var 2) e_int) (e_var 6)) (a_cons (e_sub (e_var 3) e_int) (a_cons (e_var 4) a_nil)))))) (ss_one (s_ret (e_tup (a_cons (e_idx C (e_lst (a_cons e_str (a_cons e_str a_nil))) (e_callO 0 C d_law_draw (hk := Nat.le_trans (by decide) (Nat.le_add_right 2 m)) hO (a_cons e_int a_nil))) (a_cons (e_var 7) (a_cons (e_var 8) a_nil))))))))))))), fun ds Qr hn q => ?_⟩)
   obtain ⟨ls, room, down, most, rfl, hw, hne, hll, hr1, hr2, hd, hm, q⟩ := q
   have sz := sizeLine_eq
   have q : ∀ s : Sg, s.ok → s.nodes ≤ room → s.depth ≤ down + 1 → s.tx.length ≤ 20 * room → Qr (.o s.enc) := q
   refine draw_k rfl (by decide) (by decide) fun k1 hk1 => ⟨rfl, ?_⟩
   refine ⟨_, _, rfl, rfl, _, eqF_int, _, rfl, ?_⟩
   refine ite2 (fun _ => ?_) (fun c0 => ?_)
   · refine ⟨by show 1 ≤ sizeLine; omega, by show 1 ≤ sizeLine; omega, by show 2 ≤ sizeLine; omega, draw_k rfl (by decide) (by decide) fun k2 hk2 => ?_⟩
     match k2, hk2 with
     | 0, _ => exact ⟨_, idx_lst (i := 0) rfl, q (.lit true) trivial (by show 1 ≤ room; omega) (by show 1 ≤ _; omega) (by show 3 ≤ _; omega)⟩
     | 1, _ => exact ⟨_, idx_lst (i := 1) rfl, q (.lit false) trivial (by show 1 ≤ room; omega) (by show 1 ≤ _; omega) (by show 2 ≤ _; omega)⟩
   · have leaf : tupD (aCons (cD (.str (Str.ofString "in"))) (aCons (calO 0 2 wordSF (aCons (vD 1) (aCons (vD 4) aNil))) aNil)) [some .ob, some (.im (.str (tx ls))), some (.im (.int (room : Nat))), some (.im (.int (down : Nat))), some (.im (.int (most : Nat))), some (.im (.int (k1 : Nat))), none, none, none] Qr :=
       ⟨rfl, _, _, rfl, rfl, _, _, rfl, rfl, rfl, ls, most, rfl, hw, hne, hll, by omega, fun v hv hvl => ⟨by show 2 ≤ sizeLine; omega, q (.inn v) ⟨by omega, fun c hc => by have := hw c (hv c hc); unfold isLow at this; omega⟩ (by show 1 ≤ room; omega) (by show 1 ≤ _; omega) (by have := len_inn (w := v) (n := 7) (by omega) (by decide); omega)⟩⟩
     refine ⟨_, _, rfl, rfl, _, rfl, _, rfl, ite2 (fun _ => iteT leaf) (fun c1 => ⟨_, _, rfl, rfl, _, rfl, _, rfl, ite2 (fun _ => iteT leaf) (fun c2 => ⟨_, _, rfl, rfl, _, rfl, _, rfl, ite2 (fun _ => leaf) (fun c3 => ?_)⟩)⟩)⟩
     have c2' : ¬ ((room : Int) < 2) := fun z => c2 (decide_eq_true z)
     have c3' : ¬ ((down : Int) < 1) := fun z => c3 (decide_eq_true z)
     have er : ((room - 1 : Nat) : Int) = (room : Int) - 1 := by omega
     have ed : ((down - 1 : Nat) : Int) = (down : Int) - 1 := by omega
     have one : tupD (aCons (cD (.str (Str.ofString "not"))) (aCons (calO 0 4 (sayLF m) (aCons (vD 1) (aCons (opDE (fn2 (intF fun i j => .int (i - j))) (vD 2) (cD (.int 1))) (aCons (opDE (fn2 (intF fun i j => .int (i - j))) (vD 3) (cD (.int 1))) (aCons (vD 4) aNil))))) aNil)) [some .ob, some (.im (.str (tx ls))), some (.im (.int (room : Nat))), some (.im (.int (down : Nat))), some (.im (.int (most : Nat))), some (.im (.int (k1 : Nat))), none, none, none] Qr :=
       ⟨rfl, _, _, rfl, rfl, _, _, rfl, rfl, _, rfl, _, _, rfl, rfl, _, rfl, _, _, rfl, rfl, rfl, ls, room - 1, down - 1, most, by rw [er, ed]; rfl, hw, hne, hll, by omega, by omega, by omega, hm, fun s1 ok1 n1 d1 l1 => ⟨by show 2 ≤ sizeLine; omega, q (.neg s1) ok1 (by show s1.nodes + 1 ≤ room; omega) (by show s1.depth + 1 ≤ _; omega) (by rw [len_neg]; omega)⟩⟩
     refine ⟨_, _, rfl, rfl, _, eqF_int, _, rfl, ite2 (fun _ => iteT one) (fun c4 => ⟨_, _, rfl, rfl, _, rfl, _, rfl, ite2 (fun _ => one) (fun c5 => ?_)⟩)⟩
     have c5' : ¬ ((room : Int) < 3) := fun z => c5 (decide_eq_true z)
     refine ⟨rfl, _, _, rfl, rfl, _, rfl, rfl, _, rfl, by omega, by omega, fun k2 k20 k21 => ⟨_, rfl, rfl, ?_⟩⟩
     obtain ⟨sh, rfl⟩ := Int.eq_ofNat_of_zero_le k20
     refine ⟨rfl, _, _, rfl, rfl, _, _, rfl, rfl, _, _, rfl, rfl, _, rfl, _, _, rfl, rfl, rfl, ls, 1 + sh, down - 1, most, ?_, hw, hne, hll, by omega, by omega, by omega, hm, fun s1 ok1 n1 d1 l1 => ⟨s1.flat, ?_⟩⟩
     · rw [ed, show ((1 + sh : Nat) : Int) = 1 + (sh : Int) by omega]; rfl
     refine ⟨rfl, _, _, rfl, rfl, _, _, rfl, rfl, _, rfl, _, _, rfl, rfl, _, rfl, _, _, rfl, rfl, _, rfl, _, _, rfl, rfl, rfl, ls, room - 1 - (1 + sh), down - 1, most, ?_, hw, hne, hll, by omega, by omega, by omega, hm, fun s2 ok2 n2 d2 l2 => ⟨s2.flat, ?_⟩⟩
     · rw [ed, show ((room - 1 - (1 + sh) : Nat) : Int) = (room : Int) - 1 - (1 + (sh : Int)) by omega]; rfl
     refine ⟨by show 2 ≤ sizeLine; omega, draw_k rfl (by decide) (by decide) fun j hj => ⟨_, idx_lst (and_or j hj), _, _, rfl, rfl, _, _, rfl, rfl, by show 3 ≤ sizeLine; omega, q (.both (decide (j = 0)) s1 s2) ⟨ok1, ok2⟩ (by show s1.nodes + s2.nodes + 1 ≤ room; omega) ((dep_both _).mpr ⟨by omega, by omega⟩) (by have := (len_both (decide (j = 0)) s1 s2).1; omega)⟩⟩
theorem d_law_saying (B : Blt mg) (d_law_draw : DDraw P w K mg base) (d_law_word : Def3 P w K mg base 2 "_law_word" ["_law_deal_here", "_law_letters", "_law_most"] (spD K IsDeal 2 wordSF)) (T : Top3 K mg "_law_saying" sSayingL) : Def3 P w K mg base 10 "_law_saying" ["_law_deal_here", "_law_letters", "_law_room", "_law_down", "_law_most"] (spD K IsDeal 4 (sayLF 8)) := rd_law_saying B d_law_draw d_law_word T 8
end
section
variable {P : Program} {w : World} {K : PySem.W.Frag} {mg : Str → Option Value} {base : Heap} {k : Nat}
abbrev sTextL : Stmt := top 22
theorem scTextL : FnScope ["_law_saying_here"] ["_law_saying_here"] (defScope sTextL) := ⟨rfl, rfl, rfl, by decide +kernel, rfl, by decide +kernel, by decide +kernel⟩
theorem rd_law_text (B : Blt mg) (T : Top3 K mg "_law_text" sTextL) : ∀ m, Def3 P w K mg base (1 + m) "_law_text" ["_law_saying_here"] (spO K (fun _ => True) 1 (textLF m))
 | 0 => by
   obtain ⟨f, fd, Fu, m⟩ := T.ex
   refine ⟨f, fd, Fu.ok scTextL (spO_len rfl) (fun cdv A outer s H vs Q E hr h => ?_), m, Fu.kp, Fu.binds (fun _ _ _ _ _ _ us hl => len1 hl fun _ => rfl)⟩
   obtain ⟨O, ds, Qr, ok, hφ, p, hl, is, q, kk⟩ := h
   exact (textLF_zero q).elim
 | m + 1 => by
   have d_law_text := rd_law_text B T m
   refine mk_O (k := 1 + m) T scTextL (fun _ _ _ _ _ _ us hl => len1 hl fun _ => rfl) rfl fun f cdv A outer s H E O hφ C => ⟨_, (ss_cons (s_if (t_eq C (e_len C B (a_cons (e_var 0) a_nil)) e_int) (ss_one (s_ret (e_idx C (e_var 0) e_int))) ss_nil) (ss_cons (s_if (t_eq C (e_idx C (e_var 0) e_int) e_str) (ss_one (s_ret (e_add C (e_add C e_str (e_idx C (e_lst (a_cons e_str (a_cons (e_idx C (e_var 0) e_int) a_nil))) (e_intc C B (a_cons (e_ne C (e_idx C (e_var 0) e_int) e_str) a_nil)))) e_str))) ss_nil) (ss_one (s_ret (e_add C (e_add C e_str (e_join C e_str (e_add C (e_lst (a_cons (e_idx C (e_var 0) e_int) a_nil)) (e_comp 1 ["_law_one", "_law_saying_here"] C (fun _ => .of rfl (by kernel_rfl)) (i_tup C (e_slice C (e_var 0) (o_some e_int) o_none)) (g_name 0) f_nil (e_call (C.comp _ _) d_law_text (hk := Nat.le_refl _) (fun _ => trivial) (a_cons (e_var 0) a_nil)))))) e_str))))), fun ds Qr hn q => ?_⟩
   obtain ⟨s, rfl, ok, hd, hl, q⟩ := q
   have sz := sizeLine_eq
   rw [sgp, sgc, show Str.ofString "(in " = tx Kd.inn.c by decide +kernel, show Str.ofString " " = (⟨#[32]⟩ : Str) by decide +kernel]
   have kk : ∀ k : Kd, k.s = tx (match k with | .lit b => (Kd.lit b).c | .inn => [105, 110] | .neg => [110, 111, 116] | .both o => if o = true then [97, 110, 100] else [111, 114]) := fun k => by
     cases k with
     | lit b => cases b <;> decide +kernel
     | inn => decide +kernel
     | neg => decide +kernel
     | both o => cases o <;> decide +kernel
   cases s with
   | lit b =>
     have q : Qr (.o (.str (tx (Kd.lit b).c))) := q
     rw [← kk (.lit b)] at q
     refine ⟨_, _, rfl, rfl, _, rfl, _, eqF_int, _, rfl, iteT ⟨_, _, rfl, rfl, _, rfl, q⟩⟩
   | inn w =>
     refine ⟨_, _, rfl, rfl, _, rfl, _, eqF_int, _, rfl, iteF ⟨_, _, rfl, rfl, _, rfl, _, eqS_t (by decide +kernel), _, rfl, iteT ⟨_, _, rfl, rfl, _, rfl, by show 2 ≤ sizeLine; omega, _, _, rfl, rfl, _, rfl, _, ne_empty (fun c hc => by have := ok.2 c hc; omega), ?_⟩⟩⟩
     have q : Qr (.o (.str (tx (Kd.inn.c ++ ((if w = [] then [46] else w) ++ [41]))))) := q
     have ow := ok.1
     have lk : Kd.inn.c.length = 4 := rfl
     by_cases z : w = []
     · rw [if_pos z] at q
       rw [decide_eq_true z]
       refine ⟨_, rfl, _, idx_lst (i := 0) rfl, ?_⟩
       rw [sgd]
       refine ⟨_, add_tx (by decide), _, add_tx (by decide), ?_⟩
       rw [List.append_assoc]
       exact q
     · rw [if_neg z] at q
       rw [decide_eq_false z]
       refine ⟨_, rfl, _, idx_lst (i := 1) rfl, _, add_tx (by omega), _, add_tx (by rw [List.length_append]; show _ + 1 ≤ _; omega), ?_⟩
       rw [List.append_assoc]
       exact q
   | neg s =>
     refine ⟨_, _, rfl, rfl, _, rfl, _, eqF_int, _, rfl, iteF ⟨_, _, rfl, rfl, _, rfl, _, eqS_f (by decide +kernel) (by decide +kernel), _, rfl, iteF ?_⟩⟩
     refine ⟨_, rfl, _, _, rfl, rfl, _, rfl, by show 1 ≤ sizeLine; omega, _, _, rfl, rfl, _, rfl, _, rfl, _, rfl, ?_⟩
     rw [len_neg] at hl
     have hd : s.depth + 1 ≤ m + 1 := hd
     refine comp_of (α := Sg) (enc := Sg.enc) (as := [s]) (e := fun s => .str (tx s.tx)) (fun b hb P hP => ?_) (by show 1 ≤ sizeLine; omega) ⟨_, rfl, ?_⟩
     · rw [List.mem_singleton.mp hb] at hP ⊢
       exact ⟨_, _, rfl, rfl, rfl, s, rfl, ok, by omega, by omega, hP _ rfl⟩
     · rw [show Str.ofString "not" = tx [110, 111, 116] by decide +kernel]
       refine (join_k (Q := fun b => fn2 addF (.str (tx [40])) b.d fun a => fn2 addF a.d (.str (tx [41])) Qr) (c := 32) (B := 100000) (ws := [[110, 111, 116], s.tx]) (fun w hw => ?_) (by show 2 * 100001 ≤ _; decide) ?_)
       · rcases List.mem_cons.mp hw with rfl | hw
         · decide
         · rw [List.mem_singleton.mp hw]; omega
       · have q : Qr (.o (.str (tx (Kd.neg.c ++ (s.tx ++ [41]))))) := q
         refine ⟨_, add_tx (by rw [joinL_cons (by simp)]; simp [joinL]; omega), _, add_tx (by rw [joinL_cons (by simp)]; simp [joinL]; omega), ?_⟩
         have e : [40] ++ joinL 32 [[110, 111, 116], s.tx] ++ [41] = Kd.neg.c ++ (s.tx ++ [41]) := by rw [joinL_cons (by simp)]; simp [joinL, Kd.c]
         rw [e]
         exact q
   | both o a b =>
     have key : ∀ ks : List Nat, ks.length ≤ 3 → (Kd.both o).s = tx ks → (Kd.both o).c = 40 :: (ks ++ [32]) → (PyData.strOk (Kd.both o).s && PyData.strOk (Str.ofString "in")) = true → ((Kd.both o).s == Str.ofString "in") = false → Qr (.o (.str (tx ((Kd.both o).c ++ (a.tx ++ 32 :: (b.tx ++ [41])))))) → seqD (ifS (bD (opDE (fn2 (eqF false)) (callDE (fn1 lenF) (aCons (vD 0) aNil)) (cD (.int 1)))) (retS (opDE (fn2 idxF) (vD 0) (cD (.int 0)))) fun Dd ρ => Dd.nx ρ) (seqD (ifS (bD (opDE (fn2 (eqF false)) (opDE (fn2 idxF) (vD 0) (cD (.int 0))) (cD (.str (Str.ofString "in"))))) (retS (opDE (fn2 addF) (opDE (fn2 addF) (cD (.str (tx Kd.inn.c))) (opDE (fn2 idxF) (lstD (aCons (cD (.str (Str.ofString "."))) (aCons (opDE (fn2 idxF) (vD 0) (cD (.int 1))) aNil))) (callDE (fn1 int1F) (aCons (opDE (fn2 (eqF true)) (opDE (fn2 idxF) (vD 0) (cD (.int 1))) (cD (.str (Str.ofString "")))) aNil)))) (cD (.str (tx [41]))))) fun Dd ρ => Dd.nx ρ) (retS (opDE (fn2 addF) (opDE (fn2 addF) (cD (.str (tx [40]))) (joinD (cD (.str (⟨#[32]⟩ : Str))) (opDE (fn2 addF) (lstD (aCons (opDE (fn2 idxF) (vD 0) (cD (.int 0))) aNil)) (compD 1 (srcT (slD (vD 0) (someO (cD (.int 1))) noO)) (gN 0) yesD (calD 1 (textLF m) (aCons (vD 0) aNil)))))) (cD (.str (tx [41])))))) { nx := fun x => Qr (.o .none), rt := Qr } [some (.im (.tuple [.str (Kd.both o).s, a.enc, b.enc]))] := fun ks lks e1 e2 e3 e4 q => by
       have hh := (dep_both o).mp hd
       have hz := (len_both o a b).2
       refine ⟨_, _, rfl, rfl, _, rfl, _, eqF_int, _, rfl, iteF ⟨_, _, rfl, rfl, _, rfl, _, eqS_f e3 e4, _, rfl, iteF ?_⟩⟩
       refine ⟨_, rfl, _, _, rfl, rfl, _, rfl, by show 1 ≤ sizeLine; omega, _, _, rfl, rfl, _, rfl, _, rfl, _, rfl, ?_⟩
       refine comp_of (α := Sg) (enc := Sg.enc) (as := [a, b]) (e := fun s => .str (tx s.tx)) (fun c hc P hP => ?_) (by show 2 ≤ sizeLine; omega) ⟨_, rfl, ?_⟩
       · rcases List.mem_cons.mp hc with rfl | hc
         · exact ⟨_, _, rfl, rfl, rfl, c, rfl, ok.1, by omega, by omega, hP _ rfl⟩
         · rw [List.mem_singleton.mp hc] at hP ⊢
           exact ⟨_, _, rfl, rfl, rfl, b, rfl, ok.2, by omega, by omega, hP _ rfl⟩
       · rw [e1]
         refine (join_k (Q := fun b => fn2 addF (.str (tx [40])) b.d fun a => fn2 addF a.d (.str (tx [41])) Qr) (c := 32) (B := 100000) (ws := [ks, a.tx, b.tx]) (fun w hw => ?_) (by show 3 * 100001 ≤ _; decide) ?_)
         · rcases List.mem_cons.mp hw with rfl | hw
           · omega
           · rcases List.mem_cons.mp hw with rfl | hw
             · omega
             · rw [List.mem_singleton.mp hw]; omega
         · have ej : joinL 32 [ks, a.tx, b.tx] = ks ++ 32 :: (a.tx ++ 32 :: b.tx) := by rw [joinL_cons (by simp), joinL_cons (by simp)]; rfl
           rw [ej]
           refine ⟨_, add_tx (by simp; omega), _, add_tx (by simp; omega), ?_⟩
           have e : [40] ++ (ks ++ 32 :: (a.tx ++ 32 :: b.tx)) ++ [41] = (Kd.both o).c ++ (a.tx ++ 32 :: (b.tx ++ [41])) := by rw [e2]; simp
           rw [e]
           exact q
     cases o with
     | true => exact key [97, 110, 100] (by decide) (by decide +kernel) (by decide) (by decide +kernel) (by decide +kernel) q
     | false => exact key [111, 114] (by decide) (by decide +kernel) (by decide) (by decide +kernel) (by decide +kernel) q
theorem d_law_text (B : Blt mg) (T : Top3 K mg "_law_text" sTextL) : Def3 P w K mg base 9 "_law_text" ["_law_saying_here"] (spO K (fun _ => True) 1 (textLF 8)) := rd_law_text B T 8
end
section
variable {P : Program} {w : World} {K : PySem.W.Frag} {mg : Str → Option Value} {base : Heap} {k : Nat}
abbrev sLaw : Stmt := top 23
theorem scLaw : FnScope ["_law_script", "_law_deal_here", "_law_some", "_law_turn", "_law_great", "_law_letters", "_law_saying_here", "_law_text_here"] ["_law_script"] (defScope sLaw) := ⟨rfl, rfl, rfl, by decide +kernel, rfl, by decide +kernel, by decide +kernel⟩
theorem law_ok (B : Blt mg) (d_show_saying : Def3 P w K mg base 3 "show_saying" ["saying"] (spO K (fun _ => True) 1 showSF)) (d_read_saying : Def3x P w K mg base 5 "read_saying" ["text"] (spX K mg (fun _ => True) 1 readSF)) (d_law_deal : Def3 P w K mg base 1 "_law_deal" ["_law_script", "_law_base"] (spDeal K)) (d_law_draw : DDraw P w K mg base) (d_law_alphabet : Def3 P w K mg base 2 "_law_alphabet" ["_law_deal_here", "_law_many"] (spD K IsDeal 1 lettersF)) (d_law_saying : Def3 P w K mg base 10 "_law_saying" ["_law_deal_here", "_law_letters", "_law_room", "_law_down", "_law_most"] (spD K IsDeal 4 (sayLF 8))) (d_law_text : Def3 P w K mg base 9 "_law_text" ["_law_saying_here"] (spO K (fun _ => True) 1 (textLF 8))) {f₁ : Addr} {fd₁ : FuncData} (Fu : Fun K "law" "law" sLaw f₁ fd₁) : FnOk P w K mg base CX0 11 f₁ fd₁ ["_law_script"] (spLaw K) := by
 refine mk_law5 (k := 10) Fu scLaw rfl (fun f cdv A outer s H E C => ?_) (fun f cdv A outer s H E C => ?_)
 · obtain ⟨fP, fdP, G, mP, kpP, bnP⟩ := d_law_deal.ex
   exact ps_set (i := 1) (of_decide_eq_true (by kernel_rfl)) rfl (by first | exact Or.inl rfl | exact Or.inr rfl) (pe_call (k := 10) (G.mono (by decide)) (C.room ()) rfl mP kpP bnP .nil pass0 (pa_cons (pe_var (i := 0) rfl (by first | exact Or.inl rfl | exact Or.inr (Or.inl rfl) | exact Or.inr (Or.inr rfl))) (pa_cons pe_int pa_nil)))
 · have hO : ∀ j : Addr × Addr, IsDeal ((fun j : Addr × Addr => dealOb j.1 j.2) j) := fun j => dealOb_is _ _
   refine ⟨_, (ss_cons (s_set 2 (e_lst a_nil)) (ss_cons (s_for C (j_new (i_r1 C B (a_cons e_int a_nil))) (g_name (h := 1000) 3) (ss_cons (s_set 4 (e_intc C B (a_cons (e_eq C (e_callO 1 C d_law_draw hO (a_cons e_int a_nil)) e_int) a_nil))) (ss_cons (s_set 5 (e_callO 1 C d_law_alphabet hO (a_cons (e_add C e_int (e_callO 1 C d_law_draw hO (a_cons (e_idx C (e_lst (a_cons e_int (a_cons e_int a_nil))) (e_var 4)) a_nil))) a_nil))) (ss_one (s_app 2 C (e_callO 1 C d_law_saying hO (a_cons (e_var 5) (a_cons (e_idx C (e_lst (a_cons e_int (a_cons e_int a_nil))) (e_var 4)) (a_cons (e_idx C (e_lst (a_cons e_int (a_cons e_int a_nil))) (e_var 4)) (a_cons (e_idx C (e_lst (a_cons e_int (a_cons e_int a_nil))) (e_var 4)) a_nil)))))))))) (ss_cons (s_for C (j_new (i_list C (e_add C (e_var 2) (e_slice C (e_var 2) o_none (o_some e_int))))) (g_name (h := 1000) 6) (ss_cons (s_set 7 (e_call C d_law_text (fun _ => trivial) (a_cons (e_var 6) a_nil))) (ss_one (s_if (t_w (w_or (t_ne C (e_repr C B (a_cons (e_call C d_show_saying (fun _ => trivial) (a_cons (e_var 6) a_nil)) a_nil)) (e_repr C B (a_cons (e_var 7) a_nil))) (w_or1 (t_ne C (e_repr C B (a_cons (e_call C (toO d_read_saying) (fun _ => trivial) (a_cons (e_var 7) a_nil)) a_nil)) (e_repr C B (a_cons (e_var 6) a_nil)))))) (ss_one (s_ret e_bl)) ss_nil)))) (ss_one (s_ret e_bl))))), ?_⟩
   have sz := sizeLine_eq
   refine ⟨Nat.zero_le _, rfl, ?_⟩
   (repeat infer_instance)
   refine ⟨by decide, by decide, rfl, ?_⟩
   refine forGo_rev (fun j ρ => ∃ (ss : List Sg) (x3 x4 x5 : Option DV), ρ = [none, some .ob, some (.own (ss.map Sg.enc)), x3, x4, x5, none, none] ∧ ss.length = j ∧ ∀ s ∈ ss, s.ok ∧ s.depth ≤ 8 ∧ s.tx.length ≤ 600) ⟨[], none, none, none, rfl, rfl, (fun _ h => by cases h)⟩ (fun ρ zz => ?_) fun j d ρ N hd hN ⟨ss, x3, x4, x5, e, hl, hs⟩ => ⟨?_, ?_⟩
   · obtain ⟨ss, x3, x4, x5, e, hl, hs⟩ := zz
     subst e
     have hl : ss.length = 3 := hl
     obtain ⟨a, b, c, rfl⟩ : ∃ a b c, ss = [a, b, c] := by
       match ss, hl with
       | [a, b, c], _ => exact ⟨a, b, c, rfl⟩
     refine ⟨_, _, rfl, rfl, _, _, rfl, rfl, _, rfl, _, rfl, _, add_lst (by show 3 + 1 ≤ 16777216; decide), _, rfl, rfl, ?_⟩
     have hall : ∀ s ∈ [a, b, c, a], s.ok ∧ s.depth ≤ 8 ∧ s.tx.length ≤ 600 := fun s h => hs s (by simp at h ⊢; rcases h with h | h | h | h <;> simp [h])
     show forGo _ _ _ ([a, b, c, a].map Sg.enc) _
     refine forGo_rev (fun j ρ => ∃ (o6 o7 : Option DV), ρ = [none, some .ob, some (.own ([a, b, c].map Sg.enc)), x3, x4, x5, o6, o7]) ⟨none, none, rfl⟩ (fun ρ zz => ?_) fun j d ρ N hd hN ⟨o6, o7, e⟩ => ⟨?_, ?_⟩
     · obtain ⟨o6, o7, e⟩ := zz
       subst e
       exact rfl
     · rw [List.getElem?_map] at hd
       obtain ⟨s, _, rfl⟩ := Option.map_eq_some_iff.mp hd
       exact s.flat
     · subst e
       rw [List.getElem?_map] at hd
       obtain ⟨s, es, rfl⟩ := Option.map_eq_some_iff.mp hd
       obtain ⟨ok, h8, h6⟩ := hall s (List.mem_of_getElem? es)
       have ns := (nice_sg s ok).more h8 (Nat.mul_le_mul_left 2 h6)
       have nt : Nice 0 600 (.str (tx s.tx)) := nice_txt (tx_low s ok) h6
       obtain ⟨y1, ey1, oy1⟩ := nt.repr
       obtain ⟨y2, ey2, oy2⟩ := ns.repr
       refine ⟨_, _, rfl, rfl, rfl, s, rfl, ok, h8, by omega, rfl, ?_⟩
       refine ⟨_, _, rfl, rfl, rfl, s, rfl, ok, by omega, _, ey1, _, _, rfl, rfl, _, ey1, _, L3.eq_self oy1, _, rfl, iteF ?_⟩
       refine ⟨_, _, rfl, rfl, rfl, s.tx, rfl, by omega, tx_low s ok, ?_⟩
       rw [read_back s ok]
       refine ⟨(fun c ns es z => (by cases s <;> cases z)), _, ey2, _, _, rfl, rfl, _, ey2, _, L3.eq_self oy2, _, rfl, iteF ?_⟩
       exact hN _ ⟨_, _, rfl⟩
   · obtain ⟨hj, rfl⟩ := numsD_get hd
     rfl
   · subst e
     obtain ⟨hj, rfl⟩ := numsD_get hd
     refine draw_k rfl (by decide) (by decide) fun k1 hk1 => ⟨_, eqF_int, ?_⟩
     by_cases c : k1 = 0
     · rw [decide_eq_true (by omega)]
       refine ⟨_, rfl, rfl, ?_⟩
       refine ⟨rfl, rfl, by show 2 ≤ sizeLine; omega, _, _, rfl, rfl, _, idx_lst (i := 1) rfl, rfl, _, rfl, by decide, by decide, fun k2 k20 k21 => ?_⟩
       obtain ⟨n2, rfl⟩ := Int.eq_ofNat_of_zero_le k20
       refine ⟨_, rfl, rfl, _, rfl, by omega, by omega, fun ls l1 l2 l3 => ⟨rfl, ?_⟩⟩
       have lne : ls ≠ [] := fun z => by rw [z] at l1; simp at l1; omega
       refine ⟨_, rfl, rfl, _, _, rfl, rfl, by show 2 ≤ sizeLine; omega, _, _, rfl, rfl, _, idx_lst (i := 1) rfl, by show 2 ≤ sizeLine; omega, _, _, rfl, rfl, _, idx_lst (i := 1) rfl, by show 2 ≤ sizeLine; omega, _, _, rfl, rfl, _, idx_lst (i := 1) rfl, rfl, ls, 30, 7, 7, rfl, l2, lne, by omega, by decide, by decide, by decide, by decide, fun s ok n1 d1 t1 => ⟨s.flat, by rw [List.length_map]; omega, ?_⟩⟩
       refine hN _ ⟨ss ++ [s], _, _, _, by rw [List.map_append]; rfl, by rw [List.length_append]; show ss.length + 1 = _; omega, fun x hx => ?_⟩
       rcases List.mem_append.mp hx with hx | hx
       · exact hs x hx
       · rw [List.mem_singleton.mp hx]
         exact ⟨ok, by omega, by omega⟩
     · rw [decide_eq_false (by omega)]
       refine ⟨_, rfl, rfl, ?_⟩
       refine ⟨rfl, rfl, by show 2 ≤ sizeLine; omega, _, _, rfl, rfl, _, idx_lst (i := 0) rfl, rfl, _, rfl, by decide, by decide, fun k2 k20 k21 => ?_⟩
       obtain ⟨n2, rfl⟩ := Int.eq_ofNat_of_zero_le k20
       refine ⟨_, rfl, rfl, _, rfl, by omega, by omega, fun ls l1 l2 l3 => ⟨rfl, ?_⟩⟩
       have lne : ls ≠ [] := fun z => by rw [z] at l1; simp at l1; omega
       refine ⟨_, rfl, rfl, _, _, rfl, rfl, by show 2 ≤ sizeLine; omega, _, _, rfl, rfl, _, idx_lst (i := 0) rfl, by show 2 ≤ sizeLine; omega, _, _, rfl, rfl, _, idx_lst (i := 0) rfl, by show 2 ≤ sizeLine; omega, _, _, rfl, rfl, _, idx_lst (i := 0) rfl, rfl, ls, 12, 6, 3, rfl, l2, lne, by omega, by decide, by decide, by decide, by decide, fun s ok n1 d1 t1 => ⟨s.flat, by rw [List.length_map]; omega, ?_⟩⟩
       refine hN _ ⟨ss ++ [s], _, _, _, by rw [List.map_append]; rfl, by rw [List.length_append]; show ss.length + 1 = _; omega, fun x hx => ?_⟩
       rcases List.mem_append.mp hx with hx | hx
       · exact hs x hx
       · rw [List.mem_singleton.mp hx]
         exact ⟨ok, by omega, by omega⟩
end
end L68
namespace L68
open PySem PySem.Spec
open PyProof.Rows hiding St
open L2 L3
def DIn (K : PySem.W.Frag) (x : Str) (st : Stmt) : Prop := ∃ (f : Addr) (od an : Option Addr) (sl : Array (Option Value)) (oc kV dc pm cd ct : Value), PySem.W.nsIn K mainGlobals x = some (some (.ref f)) ∧ K.lookup f = some ⟨oc, od, .func (PySem.W.fnOf x x (defArgs st) (defBody st) (defScope st) .none kV dc pm an cd ct), sl⟩ ∧ PySem.W.codeIn K cd x = true ∧ PySem.W.keepIn K (.ref f) = true
theorem din_mk {K : PySem.W.Frag} {x : Str} {st : Stmt} {f : Addr} {od an : Option Addr} {sl : Array (Option Value)} {oc kV dc pm cd ct : Value} (a : PySem.W.nsIn K mainGlobals x = some (some (.ref f))) (l : K.lookup f = some ⟨oc, od, .func (PySem.W.fnOf x x (defArgs st) (defBody st) (defScope st) .none kV dc pm an cd ct), sl⟩) (c : PySem.W.codeIn K cd x = true) (k : PySem.W.keepIn K (.ref f) = true) : DIn K x st := ⟨f, od, an, sl, oc, kV, dc, pm, cd, ct, a, l, c, k⟩
theorem din_top {K : PySem.W.Frag} {x : Str} {st : Stmt} {h : Heap} {mg : Str → Option Value} (X : K.In h) (G : h.Ns mainGlobals mg) (D : DIn K x st) : Top3 K mg x st := by obtain ⟨f, _, _, _, _, _, _, _, _, _, a, l, c, k⟩ := D; exact ⟨f, _, fun_mk (st := st) l c k, PySem.W.mg_of X G a⟩
theorem all_mk {l : PySem.W.OpenLaw} {w : World} {K : PySem.W.Frag} {h : Heap} {mg : Str → Option Value} {fa : Addr} {ea : EA} (X : K.In h) (G : h.Ns mainGlobals mg) (hfa : mg "law" = some (.ref fa))
   (D1 : DIn K "is_word" sIsWord)
   (D2 : DIn K "show_word" sShowWord)
   (D3 : DIn K "texts_and_sayings" sTextsAndSayings)
   (D4 : DIn K "show_saying" sShowSaying)
   (D5 : DIn K "behind_signs" sBehindSigns)
   (D6 : DIn K "kind_at" sKindAt)
   (D7 : DIn K "end_of_word" sEndOfWord)
   (D8 : DIn K "put_into_open" sPutIntoOpen)
   (D9 : DIn K "read_saying" sReadSaying)
   (D10 : DIn K "_law_deal" sDeal)
   (D11 : DIn K "_law_draw" sDraw)
   (D12 : DIn K "_law_alphabet" sAlphabet)
   (D13 : DIn K "_law_word" sWordL)
   (D14 : DIn K "_law_saying" sSayingL)
   (D15 : DIn K "_law_text" sTextL)
   (D16 : DIn K "law" sLaw)
   (z1 : PySem.W.nsIn K mainGlobals "len" = some none)
   (z2 : PySem.W.nsIn K mainGlobals "all" = some none)
   (z3 : PySem.W.nsIn K mainGlobals "any" = some none)
   (z4 : PySem.W.nsIn K mainGlobals "sorted" = some none)
   (z5 : PySem.W.nsIn K mainGlobals "min" = some none)
   (z6 : PySem.W.nsIn K mainGlobals "max" = some none)
   (z7 : PySem.W.nsIn K mainGlobals "repr" = some none)
   (z8 : PySem.W.nsIn K mainGlobals "int" = some none)
   (z9 : PySem.W.nsIn K mainGlobals "list" = some none)
   (z10 : PySem.W.nsIn K mainGlobals "tuple" = some none)
   (z11 : PySem.W.nsIn K mainGlobals "range" = some none)
   (z12 : PySem.W.nsIn K mainGlobals "set" = some none)
   (z13 : PySem.W.nsIn K mainGlobals "isinstance" = some none)
   (z14 : PySem.W.nsIn K mainGlobals "enumerate" = some none)
   (z15 : PySem.W.nsIn K mainGlobals "zip" = some none)
   (z16 : PySem.W.nsIn K mainGlobals "reversed" = some none)
   (z17 : PySem.W.nsIn K mainGlobals "str" = some none)
   (z18 : PySem.W.nsIn K mainGlobals "sum" = some none)
   (z19 : PySem.W.nsIn K mainGlobals "dict" = some none)
   (z20 : PySem.W.nsIn K mainGlobals "bool" = some none)
   (GIKINDS : DctIn K w "KINDS" [("i", "in"), ("n", "not"), ("a", "and"), ("o", "or")])
   (GICOUNTS : DctII K w "COUNTS" [("not", 1), ("and", 2), ("or", 2)])
   (XE : ErrInS K ea) (rNoText : RNoTextS K ea)
   : ∃ fd : FuncData, (∀ (s : Shared) (v : Value), BindsTo s fd ⟨[v], []⟩ [("_law_script", v)]) ∧ ∀ base : Heap, K.In base → base.Ns mainGlobals mg → FnOk l.prog w K mg base CX0 11 fa fd ["_law_script"] (spLaw K) := by
 have T1 := din_top X G D1
 have T2 := din_top X G D2
 have T3 := din_top X G D3
 have T4 := din_top X G D4
 have T5 := din_top X G D5
 have T6 := din_top X G D6
 have T7 := din_top X G D7
 have T8 := din_top X G D8
 have T9 := din_top X G D9
 have T10 := din_top X G D10
 have T11 := din_top X G D11
 have T12 := din_top X G D12
 have T13 := din_top X G D13
 have T14 := din_top X G D14
 have T15 := din_top X G D15
 have T16 := din_top X G D16
 have B : Blt mg := ⟨PySem.W.mg_none_of X G z1, PySem.W.mg_none_of X G z2, PySem.W.mg_none_of X G z3, PySem.W.mg_none_of X G z4, PySem.W.mg_none_of X G z5, PySem.W.mg_none_of X G z6, PySem.W.mg_none_of X G z7, PySem.W.mg_none_of X G z8, PySem.W.mg_none_of X G z9, PySem.W.mg_none_of X G z10, PySem.W.mg_none_of X G z11, PySem.W.mg_none_of X G z12, PySem.W.mg_none_of X G z13, PySem.W.mg_none_of X G z14, PySem.W.mg_none_of X G z15, PySem.W.mg_none_of X G z16, PySem.W.mg_none_of X G z17, PySem.W.mg_none_of X G z18, PySem.W.mg_none_of X G z19, PySem.W.mg_none_of X G z20⟩
 have EC := XE.errS X G
 have gKINDS := GIKINDS.glo X G
 have gCOUNTS := GICOUNTS.glo X G
 obtain ⟨f16, od16, an16, sl16, oc16, kV16, dc16, pm16, cd16, ct16, a16, l16, c16, k16⟩ := D16
 have e := hfa.symm.trans (PySem.W.mg_of X G a16)
 cases e
 refine ⟨PySem.W.fnOf "law" "law" (defArgs sLaw) (defBody sLaw) (defScope sLaw) .none kV16 dc16 pm16 an16 cd16 ct16, fun s v => .of_eq rfl, fun base _ _ => ?_⟩
 have e1 := d_is_word (P := l.prog) (w := w) (base := base) B T1
 have e2 := d_show_word (P := l.prog) (w := w) (base := base) B T2
 have e3 := d_texts_and_sayings B e2 T3
 have e4 := d_show_saying B e3 T4
 have e5 := d_behind_signs (P := l.prog) (w := w) (base := base) B EC rNoText T5
 have e6 := d_kind_at (P := l.prog) (w := w) (base := base) B EC rNoText gKINDS T6
 have e7 := d_end_of_word B EC rNoText e1 T7
 have e8 := d_put_into_open B gCOUNTS e5 T8
 have e9 := d_read_saying B EC rNoText gCOUNTS e5 e6 e7 e8 T9
 have e10 := d_law_deal (P := l.prog) (w := w) (base := base) B T10
 have e11 := d_law_draw (P := l.prog) (w := w) (base := base) B T11
 have e12 := d_law_alphabet B e11 T12
 have e13 := d_law_word B e11 T13
 have e14 := d_law_saying B e11 e13 T14
 have e15 := d_law_text (P := l.prog) (w := w) (base := base) B T15
 exact law_ok B e4 e9 e10 e11 e12 e14 e15 (fun_mk (st := sLaw) l16 c16 k16)
theorem walk {l : PySem.W.OpenLaw} {q : Program} {loose : List Str} {XP : (Str → Option Value) → Heap → Prop} {YP : World → Heap → Prop} {d : DefRec} {K : Params → PySem.W.Frag} (hn : l.most = some 63) (hdf : d.params.defaults = [])
   (hY : ∀ (w : World) (h : Heap), YP w h → (K w.params).In h)
   (F : ∀ (w : World) (mg : Str → Option Value) (fa : Addr) (h : Heap), (K w.params).In h → h.Ns mainGlobals mg → mg d.name = some (.ref fa) →
     ∃ fd : FuncData, (∀ (s : Shared) (u : Value), BindsTo s fd ⟨[u], []⟩ [("_law_script", u)]) ∧ ∀ base : Heap, (K w.params).In base → base.Ns mainGlobals mg → FnOk l.prog w (K w.params) mg base CX0 11 fa fd ["_law_script"] (spLaw (K w.params))) :
   PySem.W.WalkO q loose XP YP l.row.toRowW d [] (fun f vs => PySem.call f vs) :=
 L2.walk_of (n := 63) (k := 11) (x := "_law_script") (CX := fun _ => CX0) (sp := fun w => spLaw (K w.params)) hn (by decide) hdf ⟨rfl, by decide, by decide, rfl⟩ hY F (fun _ _ a ns hl _ hS => ⟨a, ns, rfl, hS, hl, fun _ => rfl⟩) fun _ _ _ _ _ z => z
end L68
open PySem PySem.W PyProof.Rows
set_option maxRecDepth 100000 in
set_option maxHeartbeats 0 in
theorem PySem.Challenge.cw_lostpost_k68_sayings_as_texts_holds : PySem.Challenge.rw_lostpost_k68_sayings_as_texts.Holds := by
 w_on; o_law; k_head; (case hw => w_witness2)
 k_fill
 refine L68.walk (l := PySem.Challenge.rw_lostpost_k68_sayings_as_texts) rfl rfl (fun w h Y => PySem.W.kIn_of Y) ?F
 case F =>
   intro w mg fa h KX G hmg
   refine' L68.all_mk KX G hmg (L68.din_mk ?a1 ?l1 ?c1 ?k1) (L68.din_mk ?a2 ?l2 ?c2 ?k2) (L68.din_mk ?a3 ?l3 ?c3 ?k3) (L68.din_mk ?a4 ?l4 ?c4 ?k4) (L68.din_mk ?a5 ?l5 ?c5 ?k5) (L68.din_mk ?a6 ?l6 ?c6 ?k6) (L68.din_mk ?a7 ?l7 ?c7 ?k7) (L68.din_mk ?a8 ?l8 ?c8 ?k8) (L68.din_mk ?a9 ?l9 ?c9 ?k9) (L68.din_mk ?a10 ?l10 ?c10 ?k10) (L68.din_mk ?a11 ?l11 ?c11 ?k11) (L68.din_mk ?a12 ?l12 ?c12 ?k12) (L68.din_mk ?a13 ?l13 ?c13 ?k13) (L68.din_mk ?a14 ?l14 ?c14 ?k14) (L68.din_mk ?a15 ?l15 ?c15 ?k15) (L68.din_mk ?a16 ?l16 ?c16 ?k16) ?z1 ?z2 ?z3 ?z4 ?z5 ?z6 ?z7 ?z8 ?z9 ?z10 ?z11 ?z12 ?z13 ?z14 ?z15 ?z16 ?z17 ?z18 ?z19 ?z20 (L3.dctIn_mk ?gKINDSa ?gKINDSb ?gKINDSc ?gKINDSd ?gKINDSe) (L3.dctII_mk ?gCOUNTSa ?gCOUNTSb ?gCOUNTSc ?gCOUNTSd ?gCOUNTSe) (L3.errInS_mk ?xeS0 ?xeS) (L3.raise1_mk ?xNoTexth1 ?xNoTexth2 ?xNoTexth3 ?xNoTexth4 ?xNoTexth5 ?xNoTexth6 ?xNoTexth7 ?xNoTexth8 ?xNoTexth9 ?xNoTexth10 ?xNoTexth11 ?xNoTexth12 ?xNoTexth13 ?xNoTexth14 ?xNoTexth15 ?xNoTexth16 ?xNoTexth17 ?xNoTexth18 ?xNoTexth19 ?xNoTexth20 L3.no_nil (L3.init1_mk ?xNoTexti1 ?xNoTexti2 ?xNoTexti3 ?xNoTexti4 ?xNoTexti5 ?xNoTexti6))
   (case a1 => k_is); (case l1 => k_is); (case c1 => k_is); (case k1 => k_is)
   (case a2 => k_is); (case l2 => k_is); (case c2 => k_is); (case k2 => k_is)
   (case a3 => k_is); (case l3 => k_is); (case c3 => k_is); (case k3 => k_is)
   (case a4 => k_is); (case l4 => k_is); (case c4 => k_is); (case k4 => k_is)
   (case a5 => k_is); (case l5 => k_is); (case c5 => k_is); (case k5 => k_is)
   (case a6 => k_is); (case l6 => k_is); (case c6 => k_is); (case k6 => k_is)
   (case a7 => k_is); (case l7 => k_is); (case c7 => k_is); (case k7 => k_is)
   (case a8 => k_is); (case l8 => k_is); (case c8 => k_is); (case k8 => k_is)
   (case a9 => k_is); (case l9 => k_is); (case c9 => k_is); (case k9 => k_is)
   (case a10 => k_is); (case l10 => k_is); (case c10 => k_is); (case k10 => k_is)
   (case a11 => k_is); (case l11 => k_is); (case c11 => k_is); (case k11 => k_is)
   (case a12 => k_is); (case l12 => k_is); (case c12 => k_is); (case k12 => k_is)
   (case a13 => k_is); (case l13 => k_is); (case c13 => k_is); (case k13 => k_is)
   (case a14 => k_is); (case l14 => k_is); (case c14 => k_is); (case k14 => k_is)
   (case a15 => k_is); (case l15 => k_is); (case c15 => k_is); (case k15 => k_is)
   (case a16 => k_is); (case l16 => k_is); (case c16 => k_is); (case k16 => k_is)
   (case z1 => k_is)
   (case z2 => k_is)
   (case z3 => k_is)
   (case z4 => k_is)
   (case z5 => k_is)
   (case z6 => k_is)
   (case z7 => k_is)
   (case z8 => k_is)
   (case z9 => k_is)
   (case z10 => k_is)
   (case z11 => k_is)
   (case z12 => k_is)
   (case z13 => k_is)
   (case z14 => k_is)
   (case z15 => k_is)
   (case z16 => k_is)
   (case z17 => k_is)
   (case z18 => k_is)
   (case z19 => k_is)
   (case z20 => k_is)
   (case gKINDSa => k_is); (case gKINDSb => k_is); (case gKINDSc => decide +kernel); (case gKINDSd => exact ⟨⟨rfl, ⟨_, rfl⟩, ⟨_, rfl⟩⟩, ⟨rfl, ⟨_, rfl⟩, ⟨_, rfl⟩⟩, ⟨rfl, ⟨_, rfl⟩, ⟨_, rfl⟩⟩, ⟨rfl, ⟨_, rfl⟩, ⟨_, rfl⟩⟩, trivial⟩); (case gKINDSe => decide +kernel)
   (case gCOUNTSa => k_is); (case gCOUNTSb => k_is); (case gCOUNTSc => decide +kernel); (case gCOUNTSd => exact ⟨⟨rfl, ⟨_, rfl⟩, ⟨_, rfl⟩⟩, ⟨rfl, ⟨_, rfl⟩, ⟨_, rfl⟩⟩, ⟨rfl, ⟨_, rfl⟩, ⟨_, rfl⟩⟩, trivial⟩); (case gCOUNTSe => decide +kernel)
   (case xeS0 => k_is); (case xeS => k_is)
   (case xNoTexth1 => k_is)
   (case xNoTexth2 => k_is)
   (case xNoTexth3 => k_is)
   (case xNoTexth4 => k_is)
   (case xNoTexth5 => k_is)
   (case xNoTexth6 => k_is)
   (case xNoTexth7 => k_is)
   (case xNoTexth8 => k_is)
   (case xNoTexth9 => k_is)
   (case xNoTexth10 => k_is)
   (case xNoTexth11 => k_is)
   (case xNoTexth12 => k_is)
   (case xNoTexth13 => k_is)
   (case xNoTexth14 => k_is)
   (case xNoTexth15 => exact L3.strKeys_of (by kernel_rfl))
   (case xNoTexth16 => kernel_rfl)
   (case xNoTexth17 => k_is)
   (case xNoTexth18 => k_is)
   (case xNoTexth19 => k_is)
   (case xNoTexth20 => k_is)
   (case xNoTexti1 => k_is); (case xNoTexti2 => k_is); (case xNoTexti3 => exact ⟨rfl, rfl, rfl, by decide +kernel, rfl, by decide +kernel, by decide +kernel⟩); (case xNoTexti4 => exact ⟨Or.inl rfl, Or.inl rfl⟩); (case xNoTexti5 => decide +kernel); (case xNoTexti6 => exact fun us hl => L3.len2 hl fun _ _ => rfl)

